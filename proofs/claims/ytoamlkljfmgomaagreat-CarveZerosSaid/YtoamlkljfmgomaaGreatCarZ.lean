/-
  What the statements of layer 10 begin with: bytes are taken, one by one, from a formatted segment's heap, and from the document's (taken).
  Conditions: what is asked lies in memory.
-/
import Derived.Test.YtoamlkljfmgomaaGreatCarY
import Derived.Test.YtoamlkljfmgomaaGreatLPhys
namespace Go.Proofs.YtoamlkljfmgomaaGreat
open Go.RowKit
set_option linter.unusedVariables false
set_option linter.unusedSimpArgs false
set_option maxRecDepth 100000

/-- the document's heap, behind so many asks -/
def tkS (O A N : Nat → Nat) : Nat → List Blk × (Nat → List Nat)
  | 0 => ([freeB 3776 1024], fun _ => [])
  | k + 1 => (tkB (tkS O A N k).1 (O k % 9) (N k % 300) (16 * 2 ^ (A k % 4)), tkL (tkS O A N k).1 (tkS O A N k).2 (O k % 9) (N k % 300) (16 * 2 ^ (A k % 4)))
theorem pow_align (x : Nat) : alignP (16 * 2 ^ (x % 4)) := by
  have h : x % 4 = 0 ∨ x % 4 = 1 ∨ x % 4 = 2 ∨ x % 4 = 3 := by omega
  unfold alignP
  rcases h with h | h | h | h <;> rw [h] <;> decide
/-- A Tx, and the heap in a box, of a call that began at w. -/
structure TkW (w : World) (hb T E : Nat) (bs : List Blk) (L : Nat → List Nat) (wr : World) : Prop where
  is : ∃ (R : Option Nat) (la : Option Addr) (n c : Nat) (va : Nat → Option Addr) (ln vc : Nat → Nat), HW w wr T R (fmt48 4800) E bs L ∧ HvK wr R w.heap.size (heapV E (.slice la n c) (fun c => .slice (va c) (ln c) (vc c))) E bs L ∧
    wr.heap[hb]? = some (.cells #[.int .u64 E, .slice la n c, .slice (va 0) (ln 0) (vc 0), .slice (va 1) (ln 1) (vc 1), .slice (va 2) (ln 2) (vc 2), .slice (va 3) (ln 3) (vc 3), .slice (va 4) (ln 4) (vc 4), .slice (va 5) (ln 5) (vc 5), .slice (va 6) (ln 6) (vc 6), .slice (va 7) (ln 7) (vc 7)] 30 (0, 0))
  res : wr.heap[w.heap.size]? = some (.cells #[.int .u64 0, .slice none 0 0, .slice none 0 0, .slice none 0 0, .slice none 0 0, .slice none 0 0, .slice none 0 0, .slice none 0 0, .slice none 0 0, .slice none 0 0] 30 (0, 0))
/-- What taken tells of a call that began at w. -/
def Taken (w : World) (bs : List Blk) (L : Nat → List Nat) (e : Ending) (w' : World) : Prop :=
  ∃ T R v, e = .returned (.tuple #[.pointer (some ⟨T, 0, none⟩), v, .bool true]) ∧ HW w w' T R (fmt48 4800) 4800 bs L ∧ HvK w' R w.heap.size v 4800 bs L
set_option maxHeartbeats 8000000 in
theorem taken10_any {w : World} {la : Option Addr} {n c : Nat} {O A N : Nat → Nat} (hp : PiecesAt w la n O A N) (hn : n ≤ maxLen) :
    Calls Tryz.prog 10 #[.slice la n c] w (Taken w (tkS O A N (min n 20)).1 (tkS O A N (min n 20)).2) := by
  have hfo : ∀ w, Calls Tryz.prog 16 #[.int .u64 4800, .slice none 0 0] w _ := fun w => formed10_nil 4800 (by decide) w
  have hnw : ∀ w, Calls Tryz.prog 23 #[.int .u64 4800] w _ := fun w => rnew10_any 4800 (by decide) (by decide) w
  unfold maxLen at hn
  go_enter Tryz.func10, Tryz.ntmps10
  go_wp2_with (first | (go_at_call 16; ((with_reducible refine (hfo _).mono ?_); rintro e w2 ⟨B, D, T, M, R, wv, pv, rfl, X2, hrt, hne⟩; obtain ⟨wa, wn, wc, hwv⟩ := wv_form hrt.words; subst hwv; obtain ⟨pa, pn, pc, hpv⟩ := pv_form hrt.puts; subst hpv)) | (go_at_call 23; ((with_reducible refine (hnw _).mono ?_); rintro e w3 ⟨v, rfl, hv, hg3⟩; obtain ⟨b0, vs0, hve, hob, hol⟩ := hv.is; obtain ⟨va, ln, vc, hvl, hol', hln⟩ := heap_lie (E := 4800) (b := b0) hol; rw [hvl] at hve; obtain ⟨lb, cb, hbe, _⟩ := hob.at_; replace hbe : b0 = .slice lb 1 cb := hbe; subst hbe; subst hve; simp only [heapV, show ((4800 : Nat) : Int) = 4800 from rfl])))
  have hs0 := heap_alloc_new' w (.cells #[.int .u64 0, .slice none 0 0, .slice none 0 0, .slice none 0 0, .slice none 0 0, .slice none 0 0, .slice none 0 0, .slice none 0 0, .slice none 0 0, .slice none 0 0] 30)
  have hg0 := World.grownBy_alloc w (.cells #[.int .u64 0, .slice none 0 0, .slice none 0 0, .slice none 0 0, .slice none 0 0, .slice none 0 0, .slice none 0 0, .slice none 0 0, .slice none 0 0, .slice none 0 0] 30) none
  have X3 := (X2.from hg0).later (grown_trans (World.grownBy_alloc _ _ _) hg3)
  have ga := World.grownBy_alloc w3 (.cells #[.int .u64 4800, .slice lb 1 cb, .slice (va 0) (ln 0) (vc 0), .slice (va 1) (ln 1) (vc 1), .slice (va 2) (ln 2) (vc 2), .slice (va 3) (ln 3) (vc 3), .slice (va 4) (ln 4) (vc 4), .slice (va 5) (ln 5) (vc 5), .slice (va 6) (ln 6) (vc 6), .slice (va 7) (ln 7) (vc 7)] 30) none
  have hbx := heap_alloc_new' w3 (.cells #[.int .u64 4800, .slice lb 1 cb, .slice (va 0) (ln 0) (vc 0), .slice (va 1) (ln 1) (vc 1), .slice (va 2) (ln 2) (vc 2), .slice (va 3) (ln 3) (vc 3), .slice (va 4) (ln 4) (vc 4), .slice (va 5) (ln 5) (vc 5), .slice (va 6) (ln 6) (vc 6), .slice (va 7) (ln 7) (vc 7)] 30)
  have X4 := X3.later ga
  obtain ⟨hb, ehb⟩ : ∃ hb, w3.heap.size = hb := ⟨_, rfl⟩
  obtain ⟨W4, eW4⟩ : ∃ W4, w3.alloc (.cells #[.int .u64 4800, .slice lb 1 cb, .slice (va 0) (ln 0) (vc 0), .slice (va 1) (ln 1) (vc 1), .slice (va 2) (ln 2) (vc 2), .slice (va 3) (ln 3) (vc 3), .slice (va 4) (ln 4) (vc 4), .slice (va 5) (ln 5) (vc 5), .slice (va 6) (ln 6) (vc 6), .slice (va 7) (ln 7) (vc 7)] 30) = W4 := ⟨_, rfl⟩
  have hwb : w.heap.size < hb := by
    have h1 := (X2.from hg0).since.size
    have h2 := hg3.size
    have h3 := X2.since.size
    simp only [World.size_alloc] at h2 h3
    omega
  rw [eW4] at ga hbx X4 ⊢
  rw [ehb] at hbx ⊢
  have hres : W4.heap[w.heap.size]? = some (.cells #[.int .u64 0, .slice none 0 0, .slice none 0 0, .slice none 0 0, .slice none 0 0, .slice none 0 0, .slice none 0 0, .slice none 0 0, .slice none 0 0, .slice none 0 0] 30 (0, 0)) := by
    have g1 := grown_trans X2.since (grown_trans (World.grownBy_alloc w2 (.cells #[.slice wa wn wc, .slice pa pn pc] 54) none) (grown_trans hg3 ga))
    exact (g1.block _ (lt_of_block hs0) (by simp)).trans hs0
  have hH : HW w W4 T R (fmt48 4800) 4800 [freeB 3776 1024] (fun _ => []) := ⟨by rw [fmt48_len], M, B, D, [], X4, sound_first⟩
  have hV : HvK W4 R w.heap.size (heapV 4800 (.slice lb 1 cb) fun c => .slice (va c) (ln c) (vc c)) 4800 [freeB 3776 1024] (fun _ => []) := by
    have h1 : HvIs W4 _ (heapV 4800 (.slice lb 1 cb) fun c => .slice (va c) (ln c) (vc c)) 4800 [freeB 3776 1024] (fun _ => []) := ⟨⟨_, _, rfl, hob.later ga, fun c hc => (hol' c hc).later ga⟩⟩
    have h2 : HW w _ T R (fmt48 4800) 4800 [freeB 3776 1024] (fun _ => []) := ⟨by rw [fmt48_len], M, B, D, [], (X2.from hg0).later (World.grownBy_alloc w2 (.cells #[.slice wa wn wc, .slice pa pn pc] 54) none), sound_first⟩
    exact (h1.beside h2 (Nat.le_refl _)).mono h2.since.size
  have H0 : TkW w hb T 4800 (tkS O A N 0).1 (tkS O A N 0).2 W4 := ⟨⟨R, lb, 1, cb, va, ln, vc, hH, hV, hbx⟩, hres⟩
  clear hH hV hres hbx ga X4 X3 X2 hrt hne hv hob hol hol' hln hvl hfo hnw hg3 ehb eW4 hs0 hg0
  go_loopw [8] (fun i wr => ∃ k : Nat, k ≤ min n 20 ∧ i = .int .i64 k ∧ TkW w hb T 4800 (tkS O A N k).1 (tkS O A N k).2 wr) (fun i _ => 20 - (intOf i).toNat)
  case atStart => exact ⟨0, Nat.zero_le _, rfl, H0⟩
  case round =>
    obtain ⟨k, hk, rfl, Hk⟩ := hrel
    rename_i wr
    clear H0
    by_cases hlt : k < min n 20
    · obtain ⟨R1, l1, n1, c1, va, ln, vc, hH, hV, hB⟩ := Hk.is
      have hR := Hk.res
      have hwr : w.grownBy wr none := hH.since
      obtain ⟨b, off, rfl, hbl, hcs⟩ := (hp.later hwr).cells (by omega)
      obtain ⟨q0, q1, q2⟩ := hcs k (by omega)
      obtain ⟨l0, l1', l2⟩ := hp.lt k
      clear hcs
      have hkn : (k : Int) < (n : Int) := by omega
      have hk20 : (k : Int) < 20 := by omega
      -- what is asked
      have ha := pow_align (A k)
      have hal := ha.le
      have eO : (O k : Int).tmod 9 = ((O k % 9 : Nat) : Int) := by rw [Int.tmod_eq_emod_of_nonneg (by omega)]; omega
      have eN : (N k : Int).tmod 300 = ((N k % 300 : Nat) : Int) := by rw [Int.tmod_eq_emod_of_nonneg (by omega)]; omega
      have eA : (A k : Int).tmod 4 = ((A k % 4 : Nat) : Int) := by rw [Int.tmod_eq_emod_of_nonneg (by omega)]; omega
      have hcode := tk_code (owner := O k % 9) (n := N k % 300) hH ha (by omega) (by omega)
      obtain ⟨s, hs⟩ : ∃ s, tkS O A N k = s := ⟨_, rfl⟩
      have hS1 : tkS O A N (k + 1) = (tkB s.1 (O k % 9) (N k % 300) (16 * 2 ^ (A k % 4)), tkL s.1 s.2 (O k % 9) (N k % 300) (16 * 2 ^ (A k % 4))) := by rw [← hs]; rfl
      have HS1 := Lib.hid hS1
      rw [hs] at hcode hH hV
      have href := fun (V : World) (R2 : Option Nat) (hR2 : ∀ g, R2 = some g → g < V.heap.size) (hv2 : HvK V R2 w.heap.size (heapV 4800 (.slice l1 n1 c1) fun c => .slice (va c) (ln c) (vc c)) 4800 s.1 s.2) (hb2 : w.heap.size ≤ V.heap.size) => tk_ref (owner := O k % 9) (n := N k % 300) hH hR2 hv2 hb2 ha (by omega) (by omega)
      simp only [heapV] at href
      obtain ⟨P, hP⟩ : ∃ P, tkP s.1 (N k % 300) (16 * 2 ^ (A k % 4)) = P := ⟨_, rfl⟩
      obtain ⟨Ee, hE⟩ : ∃ Ee, tkE s.1 (N k % 300) (16 * 2 ^ (A k % 4)) = Ee := ⟨_, rfl⟩
      rw [hP, hE] at hcode
      simp only [hP, hE] at href
      obtain ⟨a, ea⟩ : ∃ a, 16 * 2 ^ (A k % 4) = a := ⟨_, rfl⟩
      obtain ⟨r4, er4⟩ : ∃ r4, A k % 4 = r4 := ⟨_, rfl⟩
      obtain ⟨o9, eo9⟩ : ∃ o9, O k % 9 = o9 := ⟨_, rfl⟩
      obtain ⟨n3, en3⟩ : ∃ n3, N k % 300 = n3 := ⟨_, rfl⟩
      have b9 : o9 < 9 := by omega
      have b3 : n3 < 300 := by omega
      have b4 : r4 < 4 := by omega
      have ea' : 16 * 2 ^ r4 = a := by rw [← er4]; exact ea
      rw [ea, eo9, en3] at hcode HS1
      simp only [ea, eo9, en3] at href
      rw [ea] at hP hE hal ha
      rw [eo9] at eO
      rw [en3] at eN
      rw [er4] at eA
      have w9 : IntKind.i64.wrap (o9 : Int) = (o9 : Nat) := by rw [IntKind.wrap_i64]; omega
      have w3 : IntKind.u64.wrap (n3 : Int) = (n3 : Nat) := by rw [IntKind.wrap_u64]; omega
      have w4 : IntKind.u64.wrap (r4 : Int) = (r4 : Nat) := by rw [IntKind.wrap_u64]; omega
      have eSh : IntKind.u64.wrap ((16 : Int) * 2 ^ r4) = (a : Nat) := by
        rw [← ea']
        rcases (show r4 = 0 ∨ r4 = 1 ∨ r4 = 2 ∨ r4 = 3 by omega) with rfl | rfl | rfl | rfl <;> rfl
      have eP : ((P : Int) != (P : Int)) = false := by simp
      have eE : ((Ee : Int) != (Ee : Int)) = false := by simp
      have href' : ∀ (V : World) (R2 : Option Nat), (∀ g, R2 = some g → g < V.heap.size) → HvK V R2 w.heap.size (heapV 4800 (.slice l1 n1 c1) fun c => .slice (va c) (ln c) (vc c)) 4800 s.1 s.2 → w.heap.size ≤ V.heap.size → Calls Tryz.prog 15 #[.agg #[.int .u64 4800, .slice l1 n1 c1, .slice (va 0) (ln 0) (vc 0), .slice (va 1) (ln 1) (vc 1), .slice (va 2) (ln 2) (vc 2), .slice (va 3) (ln 3) (vc 3), .slice (va 4) (ln 4) (vc 4), .slice (va 5) (ln 5) (vc 5), .slice (va 6) (ln 6) (vc 6), .slice (va 7) (ln 7) (vc 7)], .int .i64 o9, .int .u64 n3, .int .u64 a] V fun e w' => ∃ v', e = .returned (.tuple #[v', .int .u64 P, .int .i64 Ee]) ∧ HvK w' R2 w.heap.size v' 4800 (tkB s.1 o9 n3 a) (tkL s.1 s.2 o9 n3 a) ∧ V.grownBy w' none := fun V R2 q1 q2 q3 => href V R2 q1 q2 q3
      have HRF := Lib.hid href'
      have HB := Lib.hid hB
      have HR := Lib.hid hR
      have HV := Lib.hid hV
      clear href href' hB hR hV hS1 hs hP hE er4 eo9 en3 ea hp
      clear ea'
      go_wp2_with (first
        | (go_at_call 14; ((with_reducible refine hcode.mono ?_); rintro e w5 ⟨rfl, R5, H5, K5⟩; have B5 := K5.far HB.out (by decide) (by decide); obtain ⟨⟨x0, x1, x2, x3, x4, x5, x6, x7, x8, x9⟩, _⟩ := ten_cells B5; have hrf := HRF.out w5 R5 (fun g e => H5.newR e) (HV.out.step K5) H5.since.size; have HB5 := Lib.hid B5; clear B5))
        | (go_at_call 15; ((with_reducible refine hrf.mono ?_); rintro e w6 ⟨v6, rfl, V6, hg6⟩; obtain ⟨l6, n6, c6, va6, ln6, vc6, hv6, hn6⟩ := V6.lie; subst hv6; have B6 := (hg6.block _ (lt_of_block HB5.out) (by simp)).trans HB5.out; have ga7 := World.grownBy_alloc w6 (.cells #[.int .u64 4800, .slice l6 n6 c6, .slice (va6 0) (ln6 0) (vc6 0), .slice (va6 1) (ln6 1) (vc6 1), .slice (va6 2) (ln6 2) (vc6 2), .slice (va6 3) (ln6 3) (vc6 3), .slice (va6 4) (ln6 4) (vc6 4), .slice (va6 5) (ln6 5) (vc6 5), .slice (va6 6) (ln6 6) (vc6 6), .slice (va6 7) (ln6 7) (vc6 7)] 30) none; have B7 := (ga7.block _ (lt_of_block B6) (by simp)).trans B6; obtain ⟨⟨x0, x1, x2, x3, x4, x5, x6, x7, x8, x9⟩, rf⟩ := ten_cells B7; have HB7 := Lib.hid B7; clear B7; have rf0 := rf 0 (by decide); have rf1 := rf 1 (by decide); have rf2 := rf 2 (by decide); have rf3 := rf 3 (by decide); have rf4 := rf 4 (by decide); have rf5 := rf 5 (by decide); have rf6 := rf 6 (by decide); have rf7 := rf 7 (by decide); have rf8 := rf 8 (by decide); have rf9 := rf 9 (by decide); have HB6 := Lib.hid B6; clear B6 rf; simp only [heapV])))
      obtain ⟨P8, Q8⟩ := ten_put (y0 := .int .u64 4800) (y1 := .slice l6 n6 c6) (y2 := .slice (va6 0) (ln6 0) (vc6 0)) (y3 := .slice (va6 1) (ln6 1) (vc6 1)) (y4 := .slice (va6 2) (ln6 2) (vc6 2)) (y5 := .slice (va6 3) (ln6 3) (vc6 3)) (y6 := .slice (va6 4) (ln6 4) (vc6 4)) (y7 := .slice (va6 5) (ln6 5) (vc6 5)) (y8 := .slice (va6 6) (ln6 6) (vc6 6)) (y9 := .slice (va6 7) (ln6 7) (vc6 7)) HB7.out
      have R5b := K5.far HR.out (by decide) (by decide)
      have R6b := (hg6.block _ (lt_of_block R5b) (by simp)).trans R5b
      have R7b := (ga7.block _ (lt_of_block R6b) (by simp)).trans R6b
      have R8b := (Q8.block _ (lt_of_block R7b) (fun e => by injection e with e; omega)).trans R7b
      have H8 := ((H5.later hg6).later ga7).other HB7.out (by decide) (by decide) (by decide) (by decide) (by omega) Q8
      have V8 := (V6.later ga7).other HB7.out (by decide) (by decide) Q8
      go_roundw
      case rel => exact ⟨k + 1, by omega, by go_num, ⟨⟨R5, l6, n6, c6, va6, ln6, vc6, by rw [HS1.out]; exact H8, by rw [HS1.out]; exact V8, P8⟩, R8b⟩⟩
      case measure => simp [intOf]; omega
    · obtain ⟨m, hm⟩ : ∃ m, min n 20 = m := ⟨_, rfl⟩
      rw [hm] at hk hlt ⊢
      obtain rfl : k = m := by omega
      obtain ⟨R1, l1, n1, c1, va, ln, vc, hH, hV, hB⟩ := Hk.is
      have hR := Hk.res
      clear Hk
      have hnb : ¬ hb = w.heap.size := by omega
      have hnb' : ¬ w.heap.size = hb := by omega
      obtain ⟨⟨a0, a1, a2, a3, a4, a5, a6, a7, a8, a9⟩, _⟩ := ten_cells hB
      obtain ⟨⟨z0, z1, z2, z3, z4, z5, z6, z7, z8, z9⟩, rf⟩ := ten_cells hR
      simp only [show ((4800 : Nat) : Int) = 4800 from rfl] at a0
      have rf0 := rf 0 (by decide)
      have rf1 := rf 1 (by decide)
      have rf2 := rf 2 (by decide)
      have rf3 := rf 3 (by decide)
      have rf4 := rf 4 (by decide)
      have rf5 := rf 5 (by decide)
      have rf6 := rf 6 (by decide)
      have rf7 := rf 7 (by decide)
      have rf8 := rf 8 (by decide)
      have rf9 := rf 9 (by decide)
      have HM := Lib.hid hm
      have HH := Lib.hid hH
      have HV := Lib.hid hV
      have HR := Lib.hid hR
      have hkd : ¬ ((k : Int) < (n : Int) ∧ (k : Int) < 20) := by omega
      have hpost : ∀ W11 : World, wr.grownBy W11 (some w.heap.size) → Taken w (tkS O A N k).1 (tkS O A N k).2 (.returned (.tuple #[.pointer (some ⟨T, 0, none⟩), heapV 4800 (.slice l1 n1 c1) (fun c => .slice (va c) (ln c) (vc c)), .bool true])) W11.drew := fun W11 hq => by
        have h1 := grown_drew (grown_refl W11 none)
        exact ⟨T, R1, _, rfl, (HH.out.other HR.out (by decide) (by decide) (by decide) (by decide) (Nat.le_refl _) hq).later h1, (HV.out.other HR.out (by decide) (by decide) hq).later h1⟩
      have HPO := Lib.hid hpost
      clear hpost hm hH hV hp hB hR rf
      by_cases hkn : (k : Int) < (n : Int)
      · have hk20 : ¬ (k : Int) < 20 := fun h => hkd ⟨hkn, h⟩
        clear hkd
        go_wp2
        go_region_held3 (fun w' => w'.cell? ⟨hb, 0, none⟩ = some (.int .u64 4800) ∧ w'.cell? ⟨hb, 1, none⟩ = some (.slice l1 n1 c1) ∧ w'.cell? ⟨hb, 2, none⟩ = some (.slice (va 0) (ln 0) (vc 0)) ∧ w'.cell? ⟨hb, 3, none⟩ = some (.slice (va 1) (ln 1) (vc 1)) ∧ w'.cell? ⟨hb, 4, none⟩ = some (.slice (va 2) (ln 2) (vc 2)) ∧ w'.cell? ⟨hb, 5, none⟩ = some (.slice (va 3) (ln 3) (vc 3)) ∧ w'.cell? ⟨hb, 6, none⟩ = some (.slice (va 4) (ln 4) (vc 4)) ∧ w'.cell? ⟨hb, 7, none⟩ = some (.slice (va 5) (ln 5) (vc 5)) ∧ w'.cell? ⟨hb, 8, none⟩ = some (.slice (va 6) (ln 6) (vc 6)) ∧ w'.cell? ⟨hb, 9, none⟩ = some (.slice (va 7) (ln 7) (vc 7))) (go_keep) (fail)
        obtain ⟨P11, Q11⟩ := ten_put (y0 := .int .u64 4800) (y1 := .slice l1 n1 c1) (y2 := .slice (va 0) (ln 0) (vc 0)) (y3 := .slice (va 1) (ln 1) (vc 1)) (y4 := .slice (va 2) (ln 2) (vc 2)) (y5 := .slice (va 3) (ln 3) (vc 3)) (y6 := .slice (va 4) (ln 4) (vc 4)) (y7 := .slice (va 5) (ln 5) (vc 5)) (y8 := .slice (va 6) (ln 6) (vc 6)) (y9 := .slice (va 7) (ln 7) (vc 7)) HR.out
        obtain ⟨W11, hW11⟩ : ∃ W11, ((((((((((wr.setCell ⟨w.heap.size, 0, none⟩ (.int .u64 4800)).setCell ⟨w.heap.size, 1, none⟩ (.slice l1 n1 c1)).setCell ⟨w.heap.size, 2, none⟩ (.slice (va 0) (ln 0) (vc 0))).setCell ⟨w.heap.size, 3, none⟩ (.slice (va 1) (ln 1) (vc 1))).setCell ⟨w.heap.size, 4, none⟩ (.slice (va 2) (ln 2) (vc 2))).setCell ⟨w.heap.size, 5, none⟩ (.slice (va 3) (ln 3) (vc 3))).setCell ⟨w.heap.size, 6, none⟩ (.slice (va 4) (ln 4) (vc 4))).setCell ⟨w.heap.size, 7, none⟩ (.slice (va 5) (ln 5) (vc 5))).setCell ⟨w.heap.size, 8, none⟩ (.slice (va 6) (ln 6) (vc 6))).setCell ⟨w.heap.size, 9, none⟩ (.slice (va 7) (ln 7) (vc 7))) = W11 := ⟨_, rfl⟩
        rw [hW11] at P11 Q11 ⊢
        have hend := HPO.out W11 Q11
        have hd11 : W11.grownBy W11.drew none := grown_drew (grown_refl _ none)
        have P12 := (hd11.block _ (lt_of_block P11) (by simp)).trans P11
        obtain ⟨⟨b0, b1, b2, b3, b4, b5, b6, b7, b8, b9⟩, _⟩ := ten_cells P12
        clear a0 a1 a2 a3 a4 a5 a6 a7 a8 a9 rf0 rf1 rf2 rf3 rf4 rf5 rf6 rf7 rf8 rf9 z0 z1 z2 z3 z4 z5 z6 z7 z8 z9 hW11
        go_wp2
        refine bodyPost_ret (v := .tuple #[.pointer (some ⟨T, 0, none⟩), heapV 4800 (.slice l1 n1 c1) (fun c => .slice (va c) (ln c) (vc c)), .bool true]) (by simp [results, Tryz.results10, go_sem, heapV, b0, b1, b2, b3, b4, b5, b6, b7, b8, b9]) rfl ?_
        rw [HM.out]
        exact hend
      · clear hkd
        go_wp2
        go_region_held3 (fun w' => w'.cell? ⟨hb, 0, none⟩ = some (.int .u64 4800) ∧ w'.cell? ⟨hb, 1, none⟩ = some (.slice l1 n1 c1) ∧ w'.cell? ⟨hb, 2, none⟩ = some (.slice (va 0) (ln 0) (vc 0)) ∧ w'.cell? ⟨hb, 3, none⟩ = some (.slice (va 1) (ln 1) (vc 1)) ∧ w'.cell? ⟨hb, 4, none⟩ = some (.slice (va 2) (ln 2) (vc 2)) ∧ w'.cell? ⟨hb, 5, none⟩ = some (.slice (va 3) (ln 3) (vc 3)) ∧ w'.cell? ⟨hb, 6, none⟩ = some (.slice (va 4) (ln 4) (vc 4)) ∧ w'.cell? ⟨hb, 7, none⟩ = some (.slice (va 5) (ln 5) (vc 5)) ∧ w'.cell? ⟨hb, 8, none⟩ = some (.slice (va 6) (ln 6) (vc 6)) ∧ w'.cell? ⟨hb, 9, none⟩ = some (.slice (va 7) (ln 7) (vc 7))) (go_keep) (fail)
        obtain ⟨P11, Q11⟩ := ten_put (y0 := .int .u64 4800) (y1 := .slice l1 n1 c1) (y2 := .slice (va 0) (ln 0) (vc 0)) (y3 := .slice (va 1) (ln 1) (vc 1)) (y4 := .slice (va 2) (ln 2) (vc 2)) (y5 := .slice (va 3) (ln 3) (vc 3)) (y6 := .slice (va 4) (ln 4) (vc 4)) (y7 := .slice (va 5) (ln 5) (vc 5)) (y8 := .slice (va 6) (ln 6) (vc 6)) (y9 := .slice (va 7) (ln 7) (vc 7)) HR.out
        obtain ⟨W11, hW11⟩ : ∃ W11, ((((((((((wr.setCell ⟨w.heap.size, 0, none⟩ (.int .u64 4800)).setCell ⟨w.heap.size, 1, none⟩ (.slice l1 n1 c1)).setCell ⟨w.heap.size, 2, none⟩ (.slice (va 0) (ln 0) (vc 0))).setCell ⟨w.heap.size, 3, none⟩ (.slice (va 1) (ln 1) (vc 1))).setCell ⟨w.heap.size, 4, none⟩ (.slice (va 2) (ln 2) (vc 2))).setCell ⟨w.heap.size, 5, none⟩ (.slice (va 3) (ln 3) (vc 3))).setCell ⟨w.heap.size, 6, none⟩ (.slice (va 4) (ln 4) (vc 4))).setCell ⟨w.heap.size, 7, none⟩ (.slice (va 5) (ln 5) (vc 5))).setCell ⟨w.heap.size, 8, none⟩ (.slice (va 6) (ln 6) (vc 6))).setCell ⟨w.heap.size, 9, none⟩ (.slice (va 7) (ln 7) (vc 7))) = W11 := ⟨_, rfl⟩
        rw [hW11] at P11 Q11 ⊢
        have hend := HPO.out W11 Q11
        have hd11 : W11.grownBy W11.drew none := grown_drew (grown_refl _ none)
        have P12 := (hd11.block _ (lt_of_block P11) (by simp)).trans P11
        obtain ⟨⟨b0, b1, b2, b3, b4, b5, b6, b7, b8, b9⟩, _⟩ := ten_cells P12
        clear a0 a1 a2 a3 a4 a5 a6 a7 a8 a9 rf0 rf1 rf2 rf3 rf4 rf5 rf6 rf7 rf8 rf9 z0 z1 z2 z3 z4 z5 z6 z7 z8 z9 hW11
        go_wp2
        refine bodyPost_ret (v := .tuple #[.pointer (some ⟨T, 0, none⟩), heapV 4800 (.slice l1 n1 c1) (fun c => .slice (va c) (ln c) (vc c)), .bool true]) (by simp [results, Tryz.results10, go_sem, heapV, b0, b1, b2, b3, b4, b5, b6, b7, b8, b9]) rfl ?_
        rw [HM.out]
        exact hend
end Go.Proofs.YtoamlkljfmgomaaGreat
