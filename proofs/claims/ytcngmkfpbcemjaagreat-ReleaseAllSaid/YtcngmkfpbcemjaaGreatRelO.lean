/-
  Texts of one layer, one behind the other: memory, contracts of the functions, and what follows of them.
  Conditions: as each theorem says.
-/
import Derived.Test.YtcngmkfpbcemjaaGreatLReh
import Derived.Test.YtcngmkfpbcemjaaGreatLCan
set_option linter.unusedVariables false
set_option linter.unusedSimpArgs false
namespace Go.Proofs.YtcngmkfpbcemjaaGreat
open Go.RowKit
set_option maxRecDepth 100000
def dP (bs : List Blk) (x n : Nat) : Nat := if x % 4 < 2 then tkP bs (n % 300) 16 else 0
def dE (bs : List Blk) (x a n : Nat) : Nat := if x % 4 < 2 then tkE bs (n % 300) 16 else if x % 4 = 2 then frE bs (payB bs a) else ctE bs (payB bs a) (16 * (n % 20))
def dB (bs : List Blk) (x o a n : Nat) : List Blk := if x % 4 < 2 then tkB bs (o % 9) (n % 300) 16 else if x % 4 = 2 then frB bs (payB bs a) else ctB bs (payB bs a) (16 * (n % 20))
def dL (bs : List Blk) (L : Nat → List Nat) (x o a n : Nat) : Nat → List Nat := if x % 4 < 2 then tkL bs L (o % 9) (n % 300) 16 else if x % 4 = 2 then frL bs L (payB bs a) else L
section
variable {w0 w w' : World} {T : Nat} {R : Option Nat} {ws : List Nat} {E base x o a n : Nat} {bs : List Blk} {L : Nat → List Nat} {v : Value}
set_option maxHeartbeats 4000000 in
theorem done11_any (h : HW w0 w T R ws E bs L) (hv : HvK w R base v E bs L) (hx : x < 256) (ho : o < 256) (ha : a < 256) (hn : n < 65536) :
    Calls Tryz.prog 26 #[.pointer (some ⟨T, 0, none⟩), v, .agg #[.int .u8 x, .int .u8 o, .int .u8 a, .int .u16 n]] w fun e w' => e = .returned (.tuple #[.int .u64 (dP bs x n : Nat), .int .i64 (dE bs x a n : Nat)]) ∧ ∃ R', HW w0 w' T R' ws E (dB bs x o a n) (dL bs L x o a n) ∧ Keep w R w' R' := by
  have e4 : (x : Int).tmod 4 = ((x % 4 : Nat) : Int) := by rw [Int.tmod_eq_emod_of_nonneg (by omega)]; omega
  have e9 : (o : Int).tmod 9 = ((o % 9 : Nat) : Int) := by rw [Int.tmod_eq_emod_of_nonneg (by omega)]; omega
  have e300 : (n : Int).tmod 300 = ((n % 300 : Nat) : Int) := by rw [Int.tmod_eq_emod_of_nonneg (by omega)]; omega
  have e20 : (n : Int).tmod 20 = ((n % 20 : Nat) : Int) := by rw [Int.tmod_eq_emod_of_nonneg (by omega)]; omega
  have b9 : o % 9 < 9 := Nat.mod_lt _ (by decide)
  have b300 : n % 300 < 300 := Nat.mod_lt _ (by decide)
  have b20 : n % 20 < 20 := Nat.mod_lt _ (by decide)
  have hpay := fun (V : World) (hg : w.grownBy V none) => rpayload10_any (hv.later hg).is (by have := hw_few600 h; omega) (hw_bounds h) a (by omega)
  have htk := fun (V : World) (hg : w.grownBy V none) => tk_code (h.later hg) (n := n % 300) (a := 16) (owner := o % 9) (.inl rfl) (by omega) (by omega)
  have hfr := fun (V : World) (hg : w.grownBy V none) => fr_code (h.later hg) (payB bs a)
  have hct := fun (V : World) (hg : w.grownBy V none) => ct_code (h.later hg) (payB bs a) (16 * (n % 20))
  obtain ⟨la, n', c, va, ln, vc, rfl, _⟩ := hv.lie
  unfold dP dE dB dL
  obtain ⟨o9, eo9⟩ : ∃ o9, o % 9 = o9 := ⟨_, rfl⟩
  obtain ⟨n3, en3⟩ : ∃ n3, n % 300 = n3 := ⟨_, rfl⟩
  obtain ⟨n2, en2⟩ : ∃ n2, n % 20 = n2 := ⟨_, rfl⟩
  obtain ⟨x4, ex4⟩ : ∃ x4, x % 4 = x4 := ⟨_, rfl⟩
  rw [eo9] at e9 b9 htk ⊢
  rw [en3] at e300 b300 htk ⊢
  rw [en2] at e20 b20 hct ⊢
  rw [ex4] at e4 ⊢
  have hx4 : x4 < 4 := by omega
  have w9 : IntKind.i64.wrap (o9 : Int) = (o9 : Nat) := by rw [IntKind.wrap_i64]; omega
  have w3 : IntKind.u64.wrap (n3 : Int) = (n3 : Nat) := by rw [IntKind.wrap_u64]; omega
  have w2 : IntKind.u64.wrap (n2 : Int) = (n2 : Nat) := by rw [IntKind.wrap_u64]; omega
  have wa : IntKind.i64.wrap (a : Int) = (a : Nat) := by rw [IntKind.wrap_i64]; omega
  have w16 : IntKind.u64.wrap (16 * (n2 : Int)) = ((16 * n2 : Nat) : Int) := by rw [IntKind.wrap_u64]; omega
  obtain ⟨k16, ek16⟩ : ∃ k16, 16 * n2 = k16 := ⟨_, rfl⟩
  rw [ek16] at w16 hct ⊢
  obtain ⟨P, hP⟩ : ∃ P, payB bs a = P := ⟨_, rfl⟩
  rw [hP] at hpay hfr hct ⊢
  obtain ⟨tp, htp⟩ : ∃ tp, tkP bs n3 16 = tp := ⟨_, rfl⟩
  obtain ⟨te, hte⟩ : ∃ te, tkE bs n3 16 = te := ⟨_, rfl⟩
  obtain ⟨fe, hfe⟩ : ∃ fe, frE bs P = fe := ⟨_, rfl⟩
  obtain ⟨ce, hce⟩ : ∃ ce, ctE bs P k16 = ce := ⟨_, rfl⟩
  rw [htp, hte] at htk ⊢
  rw [hfe] at hfr ⊢
  rw [hce] at hct ⊢
  have hpay' : ∀ V : World, w.grownBy V none → Calls Tryz.prog 17 #[.agg #[.int .u64 E, .slice la n' c, .slice (va 0) (ln 0) (vc 0), .slice (va 1) (ln 1) (vc 1), .slice (va 2) (ln 2) (vc 2), .slice (va 3) (ln 3) (vc 3), .slice (va 4) (ln 4) (vc 4), .slice (va 5) (ln 5) (vc 5), .slice (va 6) (ln 6) (vc 6), .slice (va 7) (ln 7) (vc 7)], .int .i64 a] V fun e w' => e = .returned (.int .u64 P) ∧ V.grownBy w' none := fun V hg => hpay V hg
  have htk' : ∀ V : World, w.grownBy V none → Calls Tryz.prog 16 #[.pointer (some ⟨T, 0, none⟩), .int .i64 o9, .int .u64 n3, .int .u64 16] V fun e w' => e = .returned (.tuple #[.int .u64 (tp : Nat), .int .i64 (te : Nat)]) ∧ ∃ R', HW w0 w' T R' ws E (tkB bs o9 n3 16) (tkL bs L o9 n3 16) ∧ Keep V R w' R' := htk
  have ga := grown_trans (World.grownBy_alloc w (.cells (hC E la n' c va ln vc) 30) none) (World.grownBy_alloc (w.alloc (.cells (hC E la n' c va ln vc) 30)) (.cells #[.int .u8 x, .int .u8 o, .int .u8 a, .int .u16 n] 66) none)
  have hcl : ∀ V : World, ((w.alloc (.cells (hC E la n' c va ln vc) 30)).alloc (.cells #[.int .u8 x, .int .u8 o, .int .u8 a, .int .u16 n] 66)).grownBy V none → V.cell? ⟨w.heap.size + 1, 0, none⟩ = some (.int .u8 x) ∧ V.cell? ⟨w.heap.size + 1, 1, none⟩ = some (.int .u8 o) ∧ V.cell? ⟨w.heap.size + 1, 2, none⟩ = some (.int .u8 a) ∧ V.cell? ⟨w.heap.size + 1, 3, none⟩ = some (.int .u16 n) := fun V hg => by
    have h0 := heap_alloc_new' (w.alloc (.cells (hC E la n' c va ln vc) 30)) (.cells #[.int .u8 x, .int .u8 o, .int .u8 a, .int .u16 n] 66)
    rw [World.size_alloc] at h0
    have h1 := (hg.block _ (lt_of_block h0) (by simp)).trans h0
    exact ⟨by simp [World.cell?, h1], by simp [World.cell?, h1], by simp [World.cell?, h1], by simp [World.cell?, h1]⟩
  unfold heapV
  clear hpay hP htp hte hfe hce ek16 eo9 en3 en2 ex4 b9 b300 b20 h hv htk
  rcases (show x4 = 0 ∨ x4 = 1 ∨ x4 = 2 ∨ x4 = 3 by omega) with rfl | rfl | rfl | rfl
  all_goals
    clear hx4
    simp only [Nat.reduceLT, Nat.reduceEqDiff, if_true, if_false, Int.cast_ofNat_Int, show ((0 : Nat) : Int) = 0 from rfl, show ((1 : Nat) : Int) = 1 from rfl, show ((2 : Nat) : Int) = 2 from rfl, show ((3 : Nat) : Int) = 3 from rfl] at e4 ⊢
    go_enter Tryz.func26, Tryz.ntmps26
    go_wp2_with (first
      | (go_at_call 17; ((with_reducible refine (hpay' _ ga).mono ?_); rintro e w2 ⟨rfl, hg2⟩; obtain ⟨d0, d1, d2, d3⟩ := hcl _ hg2; have G2 := grown_trans ga hg2))
      | (go_at_call 16; ((with_reducible refine (htk' _ G2).mono ?_); rintro e w3 ⟨rfl, R3, H3, K3⟩))
      | (go_at_call 14; ((with_reducible refine (hfr _ G2).mono ?_); rintro e w3 ⟨rfl, R3, H3, K3⟩))
      | (go_at_call 12; ((with_reducible refine (hct _ G2).mono ?_); rintro e w3 ⟨rfl, R3, H3, K3⟩)))
    first | go_ret2 | go_ret
    exact ⟨rfl, R3, H3, (Keep.of_grown G2).trans K3⟩
set_option maxHeartbeats 8000000 in
theorem rdo11_any {V0 : World} {R0 : Option Nat} (h : HW w0 w T R ws E bs L) (hR : ∀ g, R0 = some g → g < V0.heap.size) (hv : HvK V0 R0 base v E bs L) (hb : base ≤ V0.heap.size) (hx : x < 256) (ho : o < 256) (ha : a < 256) (hn : n < 65536) :
    Calls Tryz.prog 27 #[v, .agg #[.int .u8 x, .int .u8 o, .int .u8 a, .int .u16 n]] V0 fun e w' => ∃ v', e = .returned (.tuple #[v', .int .u64 (dP bs x n : Nat), .int .i64 (dE bs x a n : Nat)]) ∧ HvK w' R0 base v' E (dB bs x o a n) (dL bs L x o a n) ∧ V0.grownBy w' none := by
  have e4 : (x : Int).tmod 4 = ((x % 4 : Nat) : Int) := by rw [Int.tmod_eq_emod_of_nonneg (by omega)]; omega
  have e9 : (o : Int).tmod 9 = ((o % 9 : Nat) : Int) := by rw [Int.tmod_eq_emod_of_nonneg (by omega)]; omega
  have e300 : (n : Int).tmod 300 = ((n % 300 : Nat) : Int) := by rw [Int.tmod_eq_emod_of_nonneg (by omega)]; omega
  have e20 : (n : Int).tmod 20 = ((n % 20 : Nat) : Int) := by rw [Int.tmod_eq_emod_of_nonneg (by omega)]; omega
  have b9 : o % 9 < 9 := Nat.mod_lt _ (by decide)
  have b300 : n % 300 < 300 := Nat.mod_lt _ (by decide)
  have b20 : n % 20 < 20 := Nat.mod_lt _ (by decide)
  have hpay := fun (V : World) (hg : V0.grownBy V none) => rpayload10_any (hv.later hg).is (by have := hw_few600 h; omega) (hw_bounds h) a (by omega)
  have hRV : ∀ V : World, V0.grownBy V none → ∀ g, R0 = some g → g < V.heap.size := fun V hg g e => Nat.lt_of_lt_of_le (hR g e) hg.size
  have htk := fun (V : World) (hg : V0.grownBy V none) => tk_ref h (hRV V hg) (hv.later hg) (Nat.le_trans hb hg.size) (n := n % 300) (a := 16) (owner := o % 9) (.inl rfl) (by omega) (by omega)
  have hfr := fun (V : World) (hg : V0.grownBy V none) => fr_ref h (hRV V hg) (hv.later hg) (Nat.le_trans hb hg.size) (payB bs a)
  have hct := fun (V : World) (hg : V0.grownBy V none) => ct_ref h (hRV V hg) (hv.later hg) (Nat.le_trans hb hg.size) (payB bs a) (16 * (n % 20)) (by omega)
  obtain ⟨la, n', c, va, ln, vc, rfl, _⟩ := hv.lie
  unfold dP dE dB dL
  obtain ⟨o9, eo9⟩ : ∃ o9, o % 9 = o9 := ⟨_, rfl⟩
  obtain ⟨n3, en3⟩ : ∃ n3, n % 300 = n3 := ⟨_, rfl⟩
  obtain ⟨n2, en2⟩ : ∃ n2, n % 20 = n2 := ⟨_, rfl⟩
  obtain ⟨x4, ex4⟩ : ∃ x4, x % 4 = x4 := ⟨_, rfl⟩
  rw [eo9] at e9 b9 htk ⊢
  rw [en3] at e300 b300 htk ⊢
  rw [en2] at e20 b20 hct ⊢
  rw [ex4] at e4 ⊢
  have hx4 : x4 < 4 := by omega
  have w9 : IntKind.i64.wrap (o9 : Int) = (o9 : Nat) := by rw [IntKind.wrap_i64]; omega
  have w3 : IntKind.u64.wrap (n3 : Int) = (n3 : Nat) := by rw [IntKind.wrap_u64]; omega
  have w2 : IntKind.u64.wrap (n2 : Int) = (n2 : Nat) := by rw [IntKind.wrap_u64]; omega
  have wa : IntKind.i64.wrap (a : Int) = (a : Nat) := by rw [IntKind.wrap_i64]; omega
  have w16 : IntKind.u64.wrap (16 * (n2 : Int)) = ((16 * n2 : Nat) : Int) := by rw [IntKind.wrap_u64]; omega
  obtain ⟨k16, ek16⟩ : ∃ k16, 16 * n2 = k16 := ⟨_, rfl⟩
  rw [ek16] at w16 hct ⊢
  obtain ⟨P, hP⟩ : ∃ P, payB bs a = P := ⟨_, rfl⟩
  rw [hP] at hpay hfr hct ⊢
  obtain ⟨tp, htp⟩ : ∃ tp, tkP bs n3 16 = tp := ⟨_, rfl⟩
  obtain ⟨te, hte⟩ : ∃ te, tkE bs n3 16 = te := ⟨_, rfl⟩
  obtain ⟨fe, hfe⟩ : ∃ fe, frE bs P = fe := ⟨_, rfl⟩
  obtain ⟨ce, hce⟩ : ∃ ce, ctE bs P k16 = ce := ⟨_, rfl⟩
  rw [htp, hte] at htk ⊢
  rw [hfe] at hfr ⊢
  rw [hce] at hct ⊢
  have hpay' : ∀ V : World, V0.grownBy V none → Calls Tryz.prog 17 #[.agg (hC E la n' c va ln vc), .int .i64 a] V fun e w' => e = .returned (.int .u64 P) ∧ V.grownBy w' none := fun V hg => hpay V hg
  have htk' : ∀ V : World, V0.grownBy V none → Calls Tryz.prog 60 #[.agg (hC E la n' c va ln vc), .int .i64 o9, .int .u64 n3, .int .u64 16] V fun e w' => ∃ v', e = .returned (.tuple #[v', .int .u64 (tp : Nat), .int .i64 (te : Nat)]) ∧ HvK w' R0 base v' E (tkB bs o9 n3 16) (tkL bs L o9 n3 16) ∧ V.grownBy w' none := htk
  have hfr' : ∀ V : World, V0.grownBy V none → Calls Tryz.prog 15 #[.agg (hC E la n' c va ln vc), .int .u64 P] V fun e w' => ∃ v', e = .returned (.tuple #[v', .int .i64 (fe : Nat)]) ∧ HvK w' R0 base v' E (frB bs P) (frL bs L P) ∧ V.grownBy w' none := hfr
  have hct' : ∀ V : World, V0.grownBy V none → Calls Tryz.prog 13 #[.agg (hC E la n' c va ln vc), .int .u64 P, .int .u64 k16] V fun e w' => ∃ v', e = .returned (.tuple #[v', .int .i64 (ce : Nat)]) ∧ HvK w' R0 base v' E (ctB bs P k16) L ∧ V.grownBy w' none := hct
  have ga := grown_trans (World.grownBy_alloc V0 (.cells (hC E la n' c va ln vc) 30) none) (grown_trans (World.grownBy_alloc (V0.alloc (.cells (hC E la n' c va ln vc) 30)) (.cells #[.int .u8 x, .int .u8 o, .int .u8 a, .int .u16 n] 66) none) (World.grownBy_alloc _ (.cells hZ 30) none))
  have h0 := heap_alloc_new' (V0.alloc (.cells (hC E la n' c va ln vc) 30)) (.cells #[.int .u8 x, .int .u8 o, .int .u8 a, .int .u16 n] 66)
  have h1 : ((V0.alloc (.cells (hC E la n' c va ln vc) 30)).alloc (.cells #[.int .u8 x, .int .u8 o, .int .u8 a, .int .u16 n] 66)).heap[V0.heap.size]? = some (.cells (hC E la n' c va ln vc) 30 (0, 0)) := (Below.heap_alloc _ _ _ (by simp)).trans (heap_alloc_new' V0 _)
  have h2 := heap_alloc_new' ((V0.alloc (.cells (hC E la n' c va ln vc) 30)).alloc (.cells #[.int .u8 x, .int .u8 o, .int .u8 a, .int .u16 n] 66)) (.cells hZ 30)
  rw [World.size_alloc] at h0
  rw [World.size_alloc, World.size_alloc] at h2
  have h0' := (Below.heap_alloc _ (.cells hZ 30) _ (lt_of_block h0)).trans h0
  have h1' := (Below.heap_alloc _ (.cells hZ 30) _ (lt_of_block h1)).trans h1
  have hnb : V0.heap.size ≤ V0.heap.size + 1 + 1 := by omega
  unfold heapV
  clear hpay hP htp hte hfe hce ek16 eo9 en3 en2 ex4 b9 b300 b20 h hv htk hfr hct hRV
  rcases (show x4 = 0 ∨ x4 = 1 ∨ x4 = 2 ∨ x4 = 3 by omega) with rfl | rfl | rfl | rfl
  · clear hx4 h0 h1
    simp only [Nat.reduceLT, Nat.reduceEqDiff, if_true, if_false, Int.cast_ofNat_Int, show ((0 : Nat) : Int) = 0 from rfl, show ((1 : Nat) : Int) = 1 from rfl, show ((2 : Nat) : Int) = 2 from rfl, show ((3 : Nat) : Int) = 3 from rfl] at e4 ⊢
    go_enter Tryz.func27, Tryz.ntmps27
    go_wp2_with (first
      | (go_at_call 60; ((with_reducible refine (htk' _ ga).mono ?_); rintro e w3 ⟨v3, rfl, H3, hg3⟩; obtain ⟨l3, n3', c3, va3, ln3, vc3, hv3, _⟩ := H3.lie; subst hv3; unfold heapV; have h23 := (hg3.block _ (lt_of_block h2) (by simp)).trans h2; obtain ⟨⟨r0, r1, r2, r3, r4, r5, r6, r7, r8, r9⟩, rf⟩ := ten_cells h23; have rf0 := rf 0 (by decide); have rf1 := rf 1 (by decide); have rf2 := rf 2 (by decide); have rf3 := rf 3 (by decide); have rf4 := rf 4 (by decide); have rf5 := rf 5 (by decide); have rf6 := rf 6 (by decide); have rf7 := rf 7 (by decide); have rf8 := rf 8 (by decide); have rf9 := rf 9 (by decide); clear rf)))
    obtain ⟨P11, Q11⟩ := put10_of (E := E) (la := l3) (n := n3') (c := c3) (va := va3) (ln := ln3) (vc := vc3) h23
    obtain ⟨W11, hW11⟩ : ∃ W11, put10 w3 (V0.heap.size + 1 + 1) E l3 n3' c3 va3 ln3 vc3 = W11 := ⟨_, rfl⟩
    unfold put10 at hW11 P11 Q11
    rw [hW11] at P11 Q11 ⊢
    obtain ⟨⟨b0, b1, b2, b3, b4, b5, b6, b7, b8, b9⟩, _⟩ := ten_cells P11
    refine bodyPost_ret (v := .tuple #[heapV E (.slice l3 n3' c3) (fun c => .slice (va3 c) (ln3 c) (vc3 c)), .int .u64 tp, .int .i64 te]) (by simp [results, Tryz.results27, go_sem, heapV, b0, b1, b2, b3, b4, b5, b6, b7, b8, b9]) rfl ?_
    exact ⟨_, rfl, H3.other h23 (by decide) (by decide) Q11, grown_new (grown_trans (grown_any (grown_trans ga hg3) _) Q11) hnb⟩
  · clear hx4 h0 h1
    simp only [Nat.reduceLT, Nat.reduceEqDiff, if_true, if_false, Int.cast_ofNat_Int, show ((0 : Nat) : Int) = 0 from rfl, show ((1 : Nat) : Int) = 1 from rfl, show ((2 : Nat) : Int) = 2 from rfl, show ((3 : Nat) : Int) = 3 from rfl] at e4 ⊢
    go_enter Tryz.func27, Tryz.ntmps27
    go_wp2_with (first
      | (go_at_call 60; ((with_reducible refine (htk' _ ga).mono ?_); rintro e w3 ⟨v3, rfl, H3, hg3⟩; obtain ⟨l3, n3', c3, va3, ln3, vc3, hv3, _⟩ := H3.lie; subst hv3; unfold heapV; have h23 := (hg3.block _ (lt_of_block h2) (by simp)).trans h2; obtain ⟨⟨r0, r1, r2, r3, r4, r5, r6, r7, r8, r9⟩, rf⟩ := ten_cells h23; have rf0 := rf 0 (by decide); have rf1 := rf 1 (by decide); have rf2 := rf 2 (by decide); have rf3 := rf 3 (by decide); have rf4 := rf 4 (by decide); have rf5 := rf 5 (by decide); have rf6 := rf 6 (by decide); have rf7 := rf 7 (by decide); have rf8 := rf 8 (by decide); have rf9 := rf 9 (by decide); clear rf)))
    obtain ⟨P11, Q11⟩ := put10_of (E := E) (la := l3) (n := n3') (c := c3) (va := va3) (ln := ln3) (vc := vc3) h23
    obtain ⟨W11, hW11⟩ : ∃ W11, put10 w3 (V0.heap.size + 1 + 1) E l3 n3' c3 va3 ln3 vc3 = W11 := ⟨_, rfl⟩
    unfold put10 at hW11 P11 Q11
    rw [hW11] at P11 Q11 ⊢
    obtain ⟨⟨b0, b1, b2, b3, b4, b5, b6, b7, b8, b9⟩, _⟩ := ten_cells P11
    refine bodyPost_ret (v := .tuple #[heapV E (.slice l3 n3' c3) (fun c => .slice (va3 c) (ln3 c) (vc3 c)), .int .u64 tp, .int .i64 te]) (by simp [results, Tryz.results27, go_sem, heapV, b0, b1, b2, b3, b4, b5, b6, b7, b8, b9]) rfl ?_
    exact ⟨_, rfl, H3.other h23 (by decide) (by decide) Q11, grown_new (grown_trans (grown_any (grown_trans ga hg3) _) Q11) hnb⟩
  · clear hx4 h0 h1
    simp only [Nat.reduceLT, Nat.reduceEqDiff, if_true, if_false, Int.cast_ofNat_Int, show ((0 : Nat) : Int) = 0 from rfl, show ((1 : Nat) : Int) = 1 from rfl, show ((2 : Nat) : Int) = 2 from rfl, show ((3 : Nat) : Int) = 3 from rfl] at e4 ⊢
    go_enter Tryz.func27, Tryz.ntmps27
    go_wp2
    obtain ⟨W1, hW1⟩ : ∃ W1, ((V0.alloc (.cells (hC E la n' c va ln vc) 30)).alloc (.cells #[.int .u8 x, .int .u8 o, .int .u8 a, .int .u16 n] 66)).alloc (.cells hZ 30) = W1 := ⟨_, rfl⟩
    rw [hW1] at ga h0' h1' h2 ⊢
    have hcell : ∀ {V : World}, W1.grownBy V none → at10 V0.heap.size E la n' c va ln vc V ∧ V.cell? ⟨V0.heap.size + 1, 2, none⟩ = some (.int .u8 a) ∧ V.cell? ⟨V0.heap.size + 1, 3, none⟩ = some (.int .u16 n) := fun {V} hg => by
      have q0 := (hg.block _ (lt_of_block h0') (by simp)).trans h0'
      exact ⟨at10_of ((hg.block _ (lt_of_block h1') (by simp)).trans h1'), by simp [World.cell?, q0], by simp [World.cell?, q0]⟩
    have HG : W1.grownBy W1.drew none := grown_drew (grown_refl _ _)
    obtain ⟨⟨a0, a1, a2, a3, a4, a5, a6, a7, a8, a9⟩, d2, d3⟩ := hcell HG
    have hz := fun (V : World) => World.grownBy_alloc V (.cells hZ 30) none
    have HD : W1.grownBy (W1.alloc (.cells hZ 30)).drew none := grown_drew (hz W1)
    have KBD : (W1.alloc (.cells hZ 30)).drew.heap[W1.heap.size]? = some (.cells hZ 30 (0, 0)) := heap_alloc_new' W1 _
    have HZ := Lib.hid (hcell HD)
    have HS := Lib.hid (hcell HG)
    have HKD := Lib.hid KBD
    clear KBD
    go_region_held3 (fun w' => at10 V0.heap.size E la n' c va ln vc w' ∧ w'.cell? ⟨V0.heap.size + 1, 2, none⟩ = some (.int .u8 a) ∧ w'.cell? ⟨V0.heap.size + 1, 3, none⟩ = some (.int .u16 n)) (first | (with_reducible exact hcell HG) | (with_reducible exact HZ.out) | (with_reducible exact HS.out)) (first
      | (go_at_call 17; ((with_reducible first | refine (hpay' _ (grown_trans ga HG)).mono ?_ | refine (hpay' _ (grown_trans ga HD)).mono ?_); rintro e w2 ⟨rfl, hg2⟩; (first | (with_reducible replace HG := grown_trans HG hg2) | ((with_reducible replace HG := grown_trans HD hg2); have KB := (hg2.block _ (lt_of_block HKD.out) (by simp)).trans HKD.out; have HKB := Nat.le_refl W1.heap.size)); replace HZ := Lib.hid (hcell (grown_trans HG (hz w2))); obtain ⟨⟨a0, a1, a2, a3, a4, a5, a6, a7, a8, a9⟩, d2, d3⟩ := hcell HG))
      | (go_at_call 15; ((with_reducible first | refine (hfr' _ (grown_trans ga HG)).mono ?_ | refine (hfr' _ (grown_trans ga (grown_trans HG (hz w2)))).mono ?_); rintro e w3 ⟨v3, rfl, H3, hg3⟩; obtain ⟨l3, n3', c3, va3, ln3, vc3, hv3, _⟩ := H3.lie; subst hv3; unfold heapV; (first
          | ((with_reducible replace HG := grown_trans HG hg3); first
            | (replace KB := (hg3.block _ (lt_of_block KB) (by simp)).trans KB; have HP := put10_of (E := E) (la := l3) (n := n3') (c := c3) (va := va3) (ln := ln3) (vc := vc3) KB; unfold put10 at HP; have HS := Lib.hid (hcell (grown_new (grown_trans (grown_any HG _) HP.2) HKB)); clear HP; obtain ⟨⟨p0, p1, p2, p3, p4, p5, p6, p7, p8, p9⟩, pf⟩ := ten_cells KB; have pf0 := pf 0 (by decide); have pf1 := pf 1 (by decide); have pf2 := pf 2 (by decide); have pf3 := pf 3 (by decide); have pf4 := pf 4 (by decide); have pf5 := pf 5 (by decide); have pf6 := pf 6 (by decide); have pf7 := pf 7 (by decide); have pf8 := pf 8 (by decide); have pf9 := pf 9 (by decide); clear pf)
            | (have KN := heap_alloc_new' w3 (.cells hZ 30); replace HZ := Lib.hid (hcell (grown_trans HG (hz w3))); replace HS := Lib.hid (hcell (grown_trans HG (World.grownBy_alloc w3 (.cells (hC E l3 n3' c3 va3 ln3 vc3) 30) none))); obtain ⟨⟨p0, p1, p2, p3, p4, p5, p6, p7, p8, p9⟩, pf⟩ := ten_cells KN; have pf0 := pf 0 (by decide); have pf1 := pf 1 (by decide); have pf2 := pf 2 (by decide); have pf3 := pf 3 (by decide); have pf4 := pf 4 (by decide); have pf5 := pf 5 (by decide); have pf6 := pf 6 (by decide); have pf7 := pf 7 (by decide); have pf8 := pf 8 (by decide); have pf9 := pf 9 (by decide); clear pf))
          | (have HKB := HG.size; (with_reducible replace HG := grown_trans (grown_trans HG (hz w2)) hg3); have KB := (hg3.block _ (lt_of_block (heap_alloc_new' w2 (.cells hZ 30))) (by simp)).trans (heap_alloc_new' w2 _); have HP := put10_of (E := E) (la := l3) (n := n3') (c := c3) (va := va3) (ln := ln3) (vc := vc3) KB; unfold put10 at HP; have HS := Lib.hid (hcell (grown_new (grown_trans (grown_any HG _) HP.2) HKB)); clear HP; obtain ⟨⟨p0, p1, p2, p3, p4, p5, p6, p7, p8, p9⟩, pf⟩ := ten_cells KB; have pf0 := pf 0 (by decide); have pf1 := pf 1 (by decide); have pf2 := pf 2 (by decide); have pf3 := pf 3 (by decide); have pf4 := pf 4 (by decide); have pf5 := pf 5 (by decide); have pf6 := pf 6 (by decide); have pf7 := pf 7 (by decide); have pf8 := pf 8 (by decide); have pf9 := pf 9 (by decide); clear pf)); obtain ⟨⟨a0, a1, a2, a3, a4, a5, a6, a7, a8, a9⟩, d2, d3⟩ := hcell HG)))
    all_goals
      first
        | (obtain ⟨P9, Q9⟩ := put10_of (E := E) (la := l3) (n := n3') (c := c3) (va := va3) (ln := ln3) (vc := vc3) (show w3.heap[w2.heap.size]? = some (.cells hZ 30 (0, 0)) from KB); obtain ⟨W9, hW9⟩ : ∃ W9, put10 w3 w2.heap.size E l3 n3' c3 va3 ln3 vc3 = W9 := ⟨_, rfl⟩; unfold put10 at hW9 P9 Q9; rw [hW9] at P9 Q9 ⊢; have G9 := grown_new (grown_trans (grown_any HG _) Q9) HKB; have H9 := H3.other KB (by decide) (by decide) Q9; clear hW9 Q9 KB)
        | (obtain ⟨P9, Q9⟩ := put10_of (E := E) (la := l3) (n := n3') (c := c3) (va := va3) (ln := ln3) (vc := vc3) (show w3.heap[W1.heap.size]? = some (.cells hZ 30 (0, 0)) from KB); obtain ⟨W9, hW9⟩ : ∃ W9, put10 w3 W1.heap.size E l3 n3' c3 va3 ln3 vc3 = W9 := ⟨_, rfl⟩; unfold put10 at hW9 P9 Q9; rw [hW9] at P9 Q9 ⊢; have G9 := grown_new (grown_trans (grown_any HG _) Q9) HKB; have H9 := H3.other KB (by decide) (by decide) Q9; clear hW9 Q9 KB)
        | (have P9 := heap_alloc_new' w3 (.cells (hC E l3 n3' c3 va3 ln3 vc3) 30); have G9 := grown_trans HG (World.grownBy_alloc w3 (.cells (hC E l3 n3' c3 va3 ln3 vc3) 30) none); have H9 := H3.later (World.grownBy_alloc w3 (.cells (hC E l3 n3' c3 va3 ln3 vc3) 30) none); obtain ⟨W9, hW9⟩ : ∃ W9, w3.alloc (.cells (hC E l3 n3' c3 va3 ln3 vc3) 30) = W9 := ⟨_, rfl⟩; rw [hW9] at P9 G9 H9 ⊢; clear hW9 KN)
      have h29 := (G9.block _ (lt_of_block h2) (by simp)).trans h2
      have nb9 := lt_of_block h2
      clear p0 p1 p2 p3 p4 p5 p6 p7 p8 p9 pf0 pf1 pf2 pf3 pf4 pf5 pf6 pf7 pf8 pf9 a0 a1 a2 a3 a4 a5 a6 a7 a8 a9 d2 d3
      obtain ⟨⟨c0, c1, c2, c3', c4, c5, c6, c7, c8, c9⟩, _⟩ := ten_cells P9
      obtain ⟨⟨r0, r1, r2, r3, r4, r5, r6, r7, r8, r9⟩, rf⟩ := ten_cells h29
      have rf0 := rf 0 (by decide)
      have rf1 := rf 1 (by decide)
      have rf2 := rf 2 (by decide)
      have rf3 := rf 3 (by decide)
      have rf4 := rf 4 (by decide)
      have rf5 := rf 5 (by decide)
      have rf6 := rf 6 (by decide)
      have rf7 := rf 7 (by decide)
      have rf8 := rf 8 (by decide)
      have rf9 := rf 9 (by decide)
      clear rf
      go_wp2
      obtain ⟨P11, Q11⟩ := put10_of (E := E) (la := l3) (n := n3') (c := c3) (va := va3) (ln := ln3) (vc := vc3) h29
      obtain ⟨W11, hW11⟩ : ∃ W11, put10 W9 (V0.heap.size + 1 + 1) E l3 n3' c3 va3 ln3 vc3 = W11 := ⟨_, rfl⟩
      unfold put10 at hW11 P11 Q11
      rw [hW11] at P11 Q11 ⊢
      obtain ⟨⟨b0, b1, b2, b3, b4, b5, b6, b7, b8, b9⟩, _⟩ := ten_cells P11
      refine bodyPost_ret (v := .tuple #[heapV E (.slice l3 n3' c3) (fun c => .slice (va3 c) (ln3 c) (vc3 c)), .int .u64 0, .int .i64 fe]) (by simp [results, Tryz.results27, go_sem, heapV, b0, b1, b2, b3, b4, b5, b6, b7, b8, b9]) rfl ?_
      exact ⟨_, rfl, H9.other h29 (by decide) (by decide) Q11, grown_new (grown_trans (grown_any (grown_trans ga G9) _) Q11) hnb⟩
  · clear hx4 h0 h1
    simp only [Nat.reduceLT, Nat.reduceEqDiff, if_true, if_false, Int.cast_ofNat_Int, show ((0 : Nat) : Int) = 0 from rfl, show ((1 : Nat) : Int) = 1 from rfl, show ((2 : Nat) : Int) = 2 from rfl, show ((3 : Nat) : Int) = 3 from rfl] at e4 ⊢
    go_enter Tryz.func27, Tryz.ntmps27
    go_wp2
    obtain ⟨W1, hW1⟩ : ∃ W1, ((V0.alloc (.cells (hC E la n' c va ln vc) 30)).alloc (.cells #[.int .u8 x, .int .u8 o, .int .u8 a, .int .u16 n] 66)).alloc (.cells hZ 30) = W1 := ⟨_, rfl⟩
    rw [hW1] at ga h0' h1' h2 ⊢
    have hcell : ∀ {V : World}, W1.grownBy V none → at10 V0.heap.size E la n' c va ln vc V ∧ V.cell? ⟨V0.heap.size + 1, 2, none⟩ = some (.int .u8 a) ∧ V.cell? ⟨V0.heap.size + 1, 3, none⟩ = some (.int .u16 n) := fun {V} hg => by
      have q0 := (hg.block _ (lt_of_block h0') (by simp)).trans h0'
      exact ⟨at10_of ((hg.block _ (lt_of_block h1') (by simp)).trans h1'), by simp [World.cell?, q0], by simp [World.cell?, q0]⟩
    have HG : W1.grownBy W1.drew none := grown_drew (grown_refl _ _)
    obtain ⟨⟨a0, a1, a2, a3, a4, a5, a6, a7, a8, a9⟩, d2, d3⟩ := hcell HG
    have hz := fun (V : World) => World.grownBy_alloc V (.cells hZ 30) none
    have hz := fun (V : World) => World.grownBy_alloc V (.cells hZ 30) none
    have HD : W1.grownBy (W1.alloc (.cells hZ 30)).drew none := grown_drew (hz W1)
    have KBD : (W1.alloc (.cells hZ 30)).drew.heap[W1.heap.size]? = some (.cells hZ 30 (0, 0)) := heap_alloc_new' W1 _
    have HZ := Lib.hid (hcell HD)
    have HS := Lib.hid (hcell HG)
    have HKD := Lib.hid KBD
    clear KBD
    go_region_held3 (fun w' => at10 V0.heap.size E la n' c va ln vc w' ∧ w'.cell? ⟨V0.heap.size + 1, 2, none⟩ = some (.int .u8 a) ∧ w'.cell? ⟨V0.heap.size + 1, 3, none⟩ = some (.int .u16 n)) (first | (with_reducible exact hcell HG) | (with_reducible exact HZ.out) | (with_reducible exact HS.out)) (first
      | (go_at_call 17; ((with_reducible first | refine (hpay' _ (grown_trans ga HG)).mono ?_ | refine (hpay' _ (grown_trans ga HD)).mono ?_); rintro e w2 ⟨rfl, hg2⟩; (first | (with_reducible replace HG := grown_trans HG hg2) | ((with_reducible replace HG := grown_trans HD hg2); have KB := (hg2.block _ (lt_of_block HKD.out) (by simp)).trans HKD.out; have HKB := Nat.le_refl W1.heap.size)); replace HZ := Lib.hid (hcell (grown_trans HG (hz w2))); obtain ⟨⟨a0, a1, a2, a3, a4, a5, a6, a7, a8, a9⟩, d2, d3⟩ := hcell HG))
      | (go_at_call 13; ((with_reducible first | refine (hct' _ (grown_trans ga HG)).mono ?_ | refine (hct' _ (grown_trans ga (grown_trans HG (hz w2)))).mono ?_); rintro e w3 ⟨v3, rfl, H3, hg3⟩; obtain ⟨l3, n3', c3, va3, ln3, vc3, hv3, _⟩ := H3.lie; subst hv3; unfold heapV; (first
          | ((with_reducible replace HG := grown_trans HG hg3); first
            | (replace KB := (hg3.block _ (lt_of_block KB) (by simp)).trans KB; have HP := put10_of (E := E) (la := l3) (n := n3') (c := c3) (va := va3) (ln := ln3) (vc := vc3) KB; unfold put10 at HP; have HS := Lib.hid (hcell (grown_new (grown_trans (grown_any HG _) HP.2) HKB)); clear HP; obtain ⟨⟨p0, p1, p2, p3, p4, p5, p6, p7, p8, p9⟩, pf⟩ := ten_cells KB; have pf0 := pf 0 (by decide); have pf1 := pf 1 (by decide); have pf2 := pf 2 (by decide); have pf3 := pf 3 (by decide); have pf4 := pf 4 (by decide); have pf5 := pf 5 (by decide); have pf6 := pf 6 (by decide); have pf7 := pf 7 (by decide); have pf8 := pf 8 (by decide); have pf9 := pf 9 (by decide); clear pf)
            | (have KN := heap_alloc_new' w3 (.cells hZ 30); replace HZ := Lib.hid (hcell (grown_trans HG (hz w3))); replace HS := Lib.hid (hcell (grown_trans HG (World.grownBy_alloc w3 (.cells (hC E l3 n3' c3 va3 ln3 vc3) 30) none))); obtain ⟨⟨p0, p1, p2, p3, p4, p5, p6, p7, p8, p9⟩, pf⟩ := ten_cells KN; have pf0 := pf 0 (by decide); have pf1 := pf 1 (by decide); have pf2 := pf 2 (by decide); have pf3 := pf 3 (by decide); have pf4 := pf 4 (by decide); have pf5 := pf 5 (by decide); have pf6 := pf 6 (by decide); have pf7 := pf 7 (by decide); have pf8 := pf 8 (by decide); have pf9 := pf 9 (by decide); clear pf))
          | (have HKB := HG.size; (with_reducible replace HG := grown_trans (grown_trans HG (hz w2)) hg3); have KB := (hg3.block _ (lt_of_block (heap_alloc_new' w2 (.cells hZ 30))) (by simp)).trans (heap_alloc_new' w2 _); have HP := put10_of (E := E) (la := l3) (n := n3') (c := c3) (va := va3) (ln := ln3) (vc := vc3) KB; unfold put10 at HP; have HS := Lib.hid (hcell (grown_new (grown_trans (grown_any HG _) HP.2) HKB)); clear HP; obtain ⟨⟨p0, p1, p2, p3, p4, p5, p6, p7, p8, p9⟩, pf⟩ := ten_cells KB; have pf0 := pf 0 (by decide); have pf1 := pf 1 (by decide); have pf2 := pf 2 (by decide); have pf3 := pf 3 (by decide); have pf4 := pf 4 (by decide); have pf5 := pf 5 (by decide); have pf6 := pf 6 (by decide); have pf7 := pf 7 (by decide); have pf8 := pf 8 (by decide); have pf9 := pf 9 (by decide); clear pf)); obtain ⟨⟨a0, a1, a2, a3, a4, a5, a6, a7, a8, a9⟩, d2, d3⟩ := hcell HG)))
    all_goals
      first
        | (obtain ⟨P9, Q9⟩ := put10_of (E := E) (la := l3) (n := n3') (c := c3) (va := va3) (ln := ln3) (vc := vc3) (show w3.heap[w2.heap.size]? = some (.cells hZ 30 (0, 0)) from KB); obtain ⟨W9, hW9⟩ : ∃ W9, put10 w3 w2.heap.size E l3 n3' c3 va3 ln3 vc3 = W9 := ⟨_, rfl⟩; unfold put10 at hW9 P9 Q9; rw [hW9] at P9 Q9 ⊢; have G9 := grown_new (grown_trans (grown_any HG _) Q9) HKB; have H9 := H3.other KB (by decide) (by decide) Q9; clear hW9 Q9 KB)
        | (obtain ⟨P9, Q9⟩ := put10_of (E := E) (la := l3) (n := n3') (c := c3) (va := va3) (ln := ln3) (vc := vc3) (show w3.heap[W1.heap.size]? = some (.cells hZ 30 (0, 0)) from KB); obtain ⟨W9, hW9⟩ : ∃ W9, put10 w3 W1.heap.size E l3 n3' c3 va3 ln3 vc3 = W9 := ⟨_, rfl⟩; unfold put10 at hW9 P9 Q9; rw [hW9] at P9 Q9 ⊢; have G9 := grown_new (grown_trans (grown_any HG _) Q9) HKB; have H9 := H3.other KB (by decide) (by decide) Q9; clear hW9 Q9 KB)
        | (have P9 := heap_alloc_new' w3 (.cells (hC E l3 n3' c3 va3 ln3 vc3) 30); have G9 := grown_trans HG (World.grownBy_alloc w3 (.cells (hC E l3 n3' c3 va3 ln3 vc3) 30) none); have H9 := H3.later (World.grownBy_alloc w3 (.cells (hC E l3 n3' c3 va3 ln3 vc3) 30) none); obtain ⟨W9, hW9⟩ : ∃ W9, w3.alloc (.cells (hC E l3 n3' c3 va3 ln3 vc3) 30) = W9 := ⟨_, rfl⟩; rw [hW9] at P9 G9 H9 ⊢; clear hW9 KN)
      have h29 := (G9.block _ (lt_of_block h2) (by simp)).trans h2
      have nb9 := lt_of_block h2
      clear p0 p1 p2 p3 p4 p5 p6 p7 p8 p9 pf0 pf1 pf2 pf3 pf4 pf5 pf6 pf7 pf8 pf9 a0 a1 a2 a3 a4 a5 a6 a7 a8 a9 d2 d3
      obtain ⟨⟨c0, c1, c2, c3', c4, c5, c6, c7, c8, c9⟩, _⟩ := ten_cells P9
      obtain ⟨⟨r0, r1, r2, r3, r4, r5, r6, r7, r8, r9⟩, rf⟩ := ten_cells h29
      have rf0 := rf 0 (by decide)
      have rf1 := rf 1 (by decide)
      have rf2 := rf 2 (by decide)
      have rf3 := rf 3 (by decide)
      have rf4 := rf 4 (by decide)
      have rf5 := rf 5 (by decide)
      have rf6 := rf 6 (by decide)
      have rf7 := rf 7 (by decide)
      have rf8 := rf 8 (by decide)
      have rf9 := rf 9 (by decide)
      clear rf
      go_wp2
      obtain ⟨P11, Q11⟩ := put10_of (E := E) (la := l3) (n := n3') (c := c3) (va := va3) (ln := ln3) (vc := vc3) h29
      obtain ⟨W11, hW11⟩ : ∃ W11, put10 W9 (V0.heap.size + 1 + 1) E l3 n3' c3 va3 ln3 vc3 = W11 := ⟨_, rfl⟩
      unfold put10 at hW11 P11 Q11
      rw [hW11] at P11 Q11 ⊢
      obtain ⟨⟨b0, b1, b2, b3, b4, b5, b6, b7, b8, b9⟩, _⟩ := ten_cells P11
      refine bodyPost_ret (v := .tuple #[heapV E (.slice l3 n3' c3) (fun c => .slice (va3 c) (ln3 c) (vc3 c)), .int .u64 0, .int .i64 ce]) (by simp [results, Tryz.results27, go_sem, heapV, b0, b1, b2, b3, b4, b5, b6, b7, b8, b9]) rfl ?_
      exact ⟨_, rfl, H9.other h29 (by decide) (by decide) Q11, grown_new (grown_trans (grown_any (grown_trans ga G9) _) Q11) hnb⟩
end
end Go.Proofs.YtcngmkfpbcemjaaGreat
