/-
  Layer 6's plain answer Lay, over a segment that is used whole.
  Conditions: the plain Tx is a formatted segment's of 4800 bytes, of which all are used; the pieces lie in memory; there are 20 at most.
-/
import Derived.Test.YtkpopaadkfgjaaaPhysN
import Derived.Test.YtkpopaadkfgjaaaTreeL
namespace Go.Proofs.Ytkpopaadkfgjaaa
open Go.RowKit
set_option linter.unusedVariables false
set_option linter.unusedSimpArgs false

/-- what Lay makes of so many pieces more, from place k and off on -/
def layG (A B C : Nat → Nat) : Nat → Nat → List (Nat × Nat) → Nat → List (Nat × Nat)
  | 0, _, l, off => layB (fmt48 4800) l off (4800 - off) (packN (4800 - off) false (0 : Nat))
  | m + 1, k, l, off =>
    if 4800 < off + (48 + 16 * (A k % 8)) + 48 then layB (fmt48 4800) l off (4800 - off) (packN (4800 - off) false (0 : Nat))
    else if B k % 10 = 0 then layG A B C m (k + 1) (layB (fmt48 4800) l off (48 + 16 * (A k % 8)) (packN (48 + 16 * (A k % 8)) false (0 : Nat))) (off + (48 + 16 * (A k % 8)))
    else layG A B C m (k + 1) (txStore (fmt48 4800) (layB (fmt48 4800) l off (48 + 16 * (A k % 8)) (packN (48 + 16 * (A k % 8)) true ((B k % 10 - 1 : Nat) : Int))) (off + 8) (C k % (48 + 16 * (A k % 8) - 39))) (off + (48 + 16 * (A k % 8)))
/-- what Lay makes of so many pieces -/
def layZ (A B C : Nat → Nat) (n : Nat) : List (Nat × Nat) := layG A B C n 0 [] 3776
section
variable {A B C : Nat → Nat} {n k off s u : Nat} {l Z : List (Nat × Nat)}
theorem layG_over (h : layG A B C (n - k) k l off = Z) (hk : k < n) (es : 48 + 16 * (A k % 8) = s) (hb : 4800 < off + s + 48) {s2 : Nat} (e2 : 4800 - off = s2) : layB (fmt48 4800) l off s2 (packN s2 false (0 : Nat)) = Z := by
  rw [← h, show n - k = (n - (k + 1)) + 1 by omega]
  unfold layG
  rw [es, if_pos hb, e2]
theorem layG_end (h : layG A B C (n - n) n l off = Z) {s2 : Nat} (e2 : 4800 - off = s2) : layB (fmt48 4800) l off s2 (packN s2 false (0 : Nat)) = Z := by
  rw [← h, Nat.sub_self]
  unfold layG
  rw [e2]
theorem layG_free (h : layG A B C (n - k) k l off = Z) (hk : k < n) (es : 48 + 16 * (A k % 8) = s) (hb : ¬ 4800 < off + s + 48) (hB : B k % 10 = 0) : layG A B C (n - (k + 1)) (k + 1) (layB (fmt48 4800) l off s (packN s false (0 : Nat))) (off + s) = Z := by
  rw [show n - k = (n - (k + 1)) + 1 by omega] at h
  unfold layG at h
  rw [es, if_neg hb, if_pos hB] at h
  exact h
theorem layG_used (h : layG A B C (n - k) k l off = Z) (hk : k < n) (es : 48 + 16 * (A k % 8) = s) (hb : ¬ 4800 < off + s + 48) (hB : ¬ B k % 10 = 0) (eu : B k % 10 - 1 = u) {d v : Nat} (ed : s - 39 = d) (ev : C k % d = v) : layG A B C (n - (k + 1)) (k + 1) (txStore (fmt48 4800) (layB (fmt48 4800) l off s (packN s true (u : Nat))) (off + 8) v) (off + s) = Z := by
  rw [show n - k = (n - (k + 1)) + 1 by omega] at h
  unfold layG at h
  rw [es, if_neg hb, if_neg hB, eu, ed, ev] at h
  exact h
end
/-- What holds at the head of Lay's loop. -/
structure LzRel (G : Nat → List (Nat × Nat) → Nat → Prop) (w : World) (base : Nat) (wv : Value) (k off : Nat) (wr : World) : Prop where
  is : ∃ l n pv, (n ≤ k ∧ (k ≤ 6 → n = k ∧ off ≤ 3776 + 160 * k)) ∧ LayP (fmt48 4800) l off n ∧ off + 48 ≤ 4800 ∧ RTx wr base wv pv (fmt48 4800) l ∧ wr.heap[w.heap.size]? = some (.cells #[wv, pv] 27 (0, 0)) ∧ Hid (G k l off)
  since : w.grownBy wr none
  res : wr.heap[w.heap.size + 1]? = some (.cells #[.slice none 0 0, .slice none 0 0] 27 (0, 0))
set_option maxRecDepth 100000 in
set_option maxHeartbeats 8000000 in
theorem rlay7_more {w : World} {base : Nat} {wv pv : Value} (h : RTx w base wv pv (fmt48 4800) []) (hbase : base ≤ w.heap.size) (hlt : ∀ x ∈ fmt48 4800, x < 18446744073709551616) {la : Option Addr} {n c : Nat} {A B C : Nat → Nat} (hp : PiecesAt w la n A B C) (hn : n ≤ 20) :
    Calls Try.prog 31 #[.agg #[wv, pv], .slice la n c] w fun e w' => ∃ l pv' N, e = .returned (.agg #[wv, pv']) ∧ RTx w' base wv pv' (fmt48 4800) l ∧ Laid7 l N ∧ w.grownBy w' none ∧ N ≤ n + 1 ∧ (n ≤ 6 → N = n + 1) ∧ l = layZ A B C n := by
  have hl6 : (fmt48 4800).length ≤ 131072 := by rw [fmt48_len]; decide
  have hl16 : ∀ (w1 : World) (pv : Value) (l : List (Nat × Nat)) (h : RTx w1 base wv pv (fmt48 4800) l) (hl : l.length ≤ 1000), Calls Try.prog 30 #[.agg #[wv, pv], .int .u64 16] w1 _ := fun w1 pv l h hl => rtxload_any h hl6 (by omega) 16 (by decide)
  have hwr := fun (w1 : World) (pv : Value) (l : List (Nat × Nat)) (h : RTx w1 base wv pv (fmt48 4800) l) (hb : base ≤ w1.heap.size) (hok : TxOk (fmt48 4800) l) (hl : l.length ≤ 1000) (off s : Nat) (u : Bool) (o : Int) (ho : off < 18446744073709551616) (hmy : mayP s u o) (hin : inP (txSee (fmt48 4800) l 16) off s) =>
    rtwrite_yes h hb hl6 hl hok hlt off s u o ho hmy hin
  have hst := fun (w1 : World) (pv : Value) (l : List (Nat × Nat)) (h : RTx w1 base wv pv (fmt48 4800) l) (hb : base ≤ w1.heap.size) (hl : l.length ≤ 1000000) (off v : Nat) (ho : off < 18446744073709551616) => rtxstore_any h hb hl6 hl off v ho
  obtain ⟨wa, wn, wc, hwv⟩ := wv_form h.words
  subst hwv
  obtain ⟨pa, pn, pc, hpv⟩ := pv_form h.puts
  subst hpv
  have hg0 : w.grownBy ((w.alloc (.cells #[.slice wa wn wc, .slice pa pn pc] 27)).alloc (.cells #[.slice none 0 0, .slice none 0 0] 27)) none := grown_trans (World.grownBy_alloc _ _ _) (World.grownBy_alloc _ _ _)
  have hb0 : ((w.alloc (.cells #[.slice wa wn wc, .slice pa pn pc] 27)).alloc (.cells #[.slice none 0 0, .slice none 0 0] 27)).heap[w.heap.size]? = some (.cells #[.slice wa wn wc, .slice pa pn pc] 27 (0, 0)) := (Below.heap_alloc _ _ _ (by simp)).trans (heap_alloc_new' w _)
  have hb1 : ((w.alloc (.cells #[.slice wa wn wc, .slice pa pn pc] 27)).alloc (.cells #[.slice none 0 0, .slice none 0 0] 27)).heap[w.heap.size + 1]? = some (.cells #[.slice none 0 0, .slice none 0 0] 27 (0, 0)) := by
    have := heap_alloc_new' (w.alloc (.cells #[.slice wa wn wc, .slice pa pn pc] 27)) (.cells #[.slice none 0 0, .slice none 0 0] 27)
    rwa [World.size_alloc] at this
  obtain ⟨m0, m1⟩ := two_cells hb0
  have hl0 := hl16 _ _ _ (h.later hg0) (Nat.zero_le _)
  rw [see4800] at hl0
  simp only [show ((4800 : Nat) : Int) = 4800 from rfl] at hl0
  go_enter Try.func31, Try.ntmps31
  go_wp2_with (go_at_call 30; (with_reducible refine hl0.mono ?_); rintro e w1 ⟨rfl, hg1⟩)
  have R0 : LzRel (fun k l off => layG A B C (n - k) k l off = layZ A B C n) w base (.slice wa wn wc) 0 3776 w1 := ⟨⟨[], 0, _, ⟨Nat.le_refl _, fun _ => ⟨rfl, by decide⟩⟩, LayP.first7, by decide, (h.later hg0).later hg1, (hg1.block _ (lt_of_block hb0) (by simp)).trans hb0, Lib.hid rfl⟩, grown_trans hg0 hg1, (hg1.block _ (lt_of_block hb1) (by simp)).trans hb1⟩
  clear h hb0 hb1 m0 m1 hl0 hg0 hg1
  go_loopw [5, 7] (fun o i wr => ∃ k off : Nat, k ≤ n ∧ i = .int .i64 k ∧ o = .int .u64 off ∧ LzRel (fun k l off => layG A B C (n - k) k l off = layZ A B C n) w base (.slice wa wn wc) k off wr) (fun _ i _ => n - (intOf i).toNat)
  case atStart => exact ⟨0, 3776, Nat.zero_le _, rfl, rfl, R0⟩
  case round =>
    obtain ⟨k, off, hk, rfl, rfl, R⟩ := hrel
    clear R0
    obtain ⟨⟨l, q, pv, hq, hL, h48, hrt, hbox, HGZ⟩, hsince, hres⟩ := R
    obtain ⟨qa, qn, qc, hqv⟩ := pv_form hrt.puts
    subst hqv
    have hal := hL.al
    have hll : l.length ≤ 600 := by have := hL.ok.len; rwa [fmt48_len] at this
    obtain ⟨m0, m1⟩ := two_cells hbox
    rcases Nat.lt_or_ge k n with h1 | h1
    · obtain ⟨b, o, rfl, hb, hcs⟩ := (hp.later hsince).cells (by omega)
      obtain ⟨c0, c1, c2⟩ := hcs k h1
      obtain ⟨a3, b3, c3⟩ := hp.lt k
      clear hcs
      obtain ⟨s, es⟩ : ∃ s : Nat, 48 + 16 * (A k % 8) = s := ⟨_, rfl⟩
      have es' : 48 + 16 * ((A k : Int) % 8) = (s : Nat) := by omega
      by_cases hB : B k % 10 = 0
      · have hB' : ¬ 0 < (B k : Int) % 10 := by omega
        have GX : wr.grownBy (wr.alloc (.cells #[.int .u64 s, .bool false, .int .i64 0] 78)) none := World.grownBy_alloc _ _ _
        have KX : (wr.alloc (.cells #[.int .u64 s, .bool false, .int .i64 0] 78)).heap[wr.heap.size]? = some (.cells #[.int .u64 s, .bool false, .int .i64 0] 78 (0, 0)) := heap_alloc_new' _ _
        have hrX := hrt.later GX
        have hboxX := (GX.block _ (lt_of_block hbox) (by simp)).trans hbox
        have hresX := (GX.block _ (lt_of_block hres) (by simp)).trans hres
        clear m0 m1
        obtain ⟨m0, m1⟩ := two_cells hboxX
        obtain ⟨x0, x1, x2⟩ := tag_cells KX
        by_cases hbr : 4800 < off + s + 48
        · have hbr' : 4800 < (off : Int) + (s : Int) + 48 := by omega
          have h16 := hL.top7
          obtain ⟨s2, es2⟩ : ∃ s2, 4800 - off = s2 := ⟨_, rfl⟩
          have e7 : IntKind.u64.wrap (4800 - (off : Int)) = (s2 : Nat) := by rw [IntKind.wrap_u64]; omega
          have hmy2 : mayP s2 false (0 : Nat) := by unfold mayP; simp; omega
          have hin2 : inP (txSee (fmt48 4800) l 16) off s2 := by rw [h16]; unfold inP; omega
          have hend : Laid7 (layB (fmt48 4800) l off s2 (packN s2 false (0 : Nat))) (q + 1) := by
            have hs1 := stands48 (n := 4800) (off := off) (by omega) (by omega)
            have hs2 := stands48 (n := 4800) (off := off + s2 - 8) (by omega) (by omega)
            obtain ⟨g1, g2, g3⟩ := layB_see (l := l) (p := packN s2 false (0 : Nat)) hs1 hs2 (by omega)
            have : LayP (fmt48 4800) (layB (fmt48 4800) l off s2 (packN s2 false (0 : Nat))) (off + s2) (q + 1) := hL.next7 hmy2 (by omega) ((hL.ok.store off (unpack_pack hmy2).1).store (off + s2 - 8) (unpack_pack hmy2).1) g1 g2 (fun e => by cases e) (fun x hx => g3 x (by omega) (by omega))
            rw [show off + s2 = 4800 by omega] at this
            exact this.done7 (hL.last7 hmy2 g1 fun x hx => g3 x (by omega) (by omega))
          have HEND := Lib.hid hend
          have HZE := Lib.hid (layG_over HGZ.out h1 es hbr es2)
          have hwr2 : Calls Try.prog 53 #[.agg #[.slice wa wn wc, .slice qa qn qc], .int .u64 off, .agg #[.int .u64 s2, .bool false, .int .i64 0]] (wr.alloc (.cells #[.int .u64 s, .bool false, .int .i64 0] 78)) _ := hwr (wr.alloc (.cells #[.int .u64 s, .bool false, .int .i64 0] 78)) _ l hrX (Nat.le_trans hbase (grown_trans hsince GX).size) hL.ok (by omega) off s2 false 0 (by omega) hmy2 hin2
          have G0 := grown_trans hsince GX
          clear hend hmy2 hin2 es2 h16 hL
          go_wp2_with (go_at_call 53; ((with_reducible refine hwr2.mono ?_); rintro e w5 ⟨pv5, rfl, hr5, hg5⟩; obtain ⟨qa5, qn5, qc5, hq5⟩ := pv_form hr5.puts; subst hq5; have hga := World.grownBy_alloc w5 (.cells #[.slice wa wn wc, .slice qa5 qn5 qc5] 27) none; have hZ := heap_alloc_new' w5 (.cells #[.slice wa wn wc, .slice qa5 qn5 qc5] 27); obtain ⟨z0, z1⟩ := two_cells hZ; have hR5 := ((grown_trans hg5 hga).block _ (lt_of_block hresX) (by simp)).trans hresX; obtain ⟨r0, r1⟩ := two_cells hR5; have fr0 : (w5.alloc (.cells #[.slice wa wn wc, .slice qa5 qn5 qc5] 27)).frozen? ⟨w.heap.size + 1, 0, none⟩ = false := (by simp [World.frozen?, hR5]); have fr1 : (w5.alloc (.cells #[.slice wa wn wc, .slice qa5 qn5 qc5] 27)).frozen? ⟨w.heap.size + 1, 1, none⟩ = false := (by simp [World.frozen?, hR5]); have HR5 := Lib.hid hR5; clear hR5))
          have hs : (w5.alloc (.cells #[.slice wa wn wc, .slice qa5 qn5 qc5] 27)).grownBy (((w5.alloc (.cells #[.slice wa wn wc, .slice qa5 qn5 qc5] 27)).setCell ⟨w.heap.size + 1, 0, none⟩ (.slice wa wn wc)).setCell ⟨w.heap.size + 1, 1, none⟩ (.slice qa5 qn5 qc5)) (some (w.heap.size + 1)) := grown_trans (grown_set _ _ _ _) (grown_set _ _ _ _)
          have hrE := (hr5.later hga).other HR5.out hs
          have hgE := grown_new (grown_trans (grown_any (grown_trans G0 (grown_trans hg5 hga)) _) hs) (by omega)
          have B4 : (((w5.alloc (.cells #[.slice wa wn wc, .slice qa5 qn5 qc5] 27)).setCell ⟨w.heap.size + 1, 0, none⟩ (.slice wa wn wc)).setCell ⟨w.heap.size + 1, 1, none⟩ (.slice qa5 qn5 qc5)).heap[w.heap.size + 1]? = some (.cells #[.slice wa wn wc, .slice qa5 qn5 qc5] 27 (0, 0)) := by
            rw [heap_setCell_same (heap_setCell_same HR5.out _) _]; rfl
          obtain ⟨k0, k1⟩ := two_cells B4
          refine bodyPost_ret (v := .agg #[.slice wa wn wc, .slice qa5 qn5 qc5]) (by simp [results, Try.results31, go_sem, k0, k1]) rfl ?_
          exact ⟨_, _, _, rfl, hrE, HEND.out, hgE, by omega, by omega, HZE.out⟩
        · have hbr' : ¬ 4800 < (off : Int) + (s : Int) + 48 := by omega
          have h16 := hL.top7
          have hmy2 : mayP s false (0 : Nat) := by unfold mayP; simp; omega
          have hin2 : inP (txSee (fmt48 4800) l 16) off s := by rw [h16]; unfold inP; omega
          have hs1 := stands48 (n := 4800) (off := off) (by omega) (by omega)
          have hs2 := stands48 (n := 4800) (off := off + s - 8) (by omega) (by omega)
          obtain ⟨g1, g2, g3⟩ := layB_see (l := l) (p := packN s false (0 : Nat)) hs1 hs2 (by omega)
          have hokB : TxOk (fmt48 4800) (layB (fmt48 4800) l off s (packN s false (0 : Nat))) := (hL.ok.store off (unpack_pack hmy2).1).store (off + s - 8) (unpack_pack hmy2).1
          have hlenB : (layB (fmt48 4800) l off s (packN s false (0 : Nat))).length ≤ 1000000 := by have := hokB.len; rw [fmt48_len] at this; omega
          have hwr2 : Calls Try.prog 53 #[.agg #[.slice wa wn wc, .slice qa qn qc], .int .u64 off, .agg #[.int .u64 s, .bool false, .int .i64 0]] (wr.alloc (.cells #[.int .u64 s, .bool false, .int .i64 0] 78)) _ := hwr (wr.alloc (.cells #[.int .u64 s, .bool false, .int .i64 0] 78)) _ l hrX (Nat.le_trans hbase (grown_trans hsince GX).size) hL.ok (by omega) off s false 0 (by omega) hmy2 hin2
          have hnext : LayP (fmt48 4800) (layB (fmt48 4800) l off s (packN s false (0 : Nat))) (off + s) (q + 1) :=
            hL.next7 hmy2 (by omega) hokB g1 g2 (fun e => by cases e) (fun x hx => g3 x (by omega) (by omega))
          have HN := Lib.hid hnext
          have HZN := Lib.hid (layG_free HGZ.out h1 es hbr hB)
          have G0 := grown_trans hsince GX
          have e9 : (off : Int) + (s : Int) = ((off + s : Nat) : Int) := by omega
          obtain ⟨off2, eoff2⟩ : ∃ x, off + s = x := ⟨_, rfl⟩
          rw [eoff2] at e9 HN HZN
          have HLB := Lib.hid hlenB
          have HOFF := Lib.hid eoff2
          have hoff3 : off2 + 48 ≤ 4800 := by omega
          have hbr2 : ¬ 4800 < (off2 : Int) + 48 := by omega
          clear hlenB eoff2 hL hbr hbr'
          clear hnext hmy2 hin2 h16 g1 g2 g3 hs1 hs2 hokB
          have hltw := lt_of_block hbox
          have n1 : ¬ wr.heap.size = w.heap.size := by omega
          have n2 : ¬ w.heap.size = wr.heap.size := by omega
          go_wp2_with (go_at_call 53; ((with_reducible refine hwr2.mono ?_); rintro e w5 ⟨pv5, rfl, hr5, hg5⟩; obtain ⟨qa5, qn5, qc5, hq5⟩ := pv_form hr5.puts; subst hq5; have hga := World.grownBy_alloc w5 (.cells #[.slice wa wn wc, .slice qa5 qn5 qc5] 27) none; have hZ := heap_alloc_new' w5 (.cells #[.slice wa wn wc, .slice qa5 qn5 qc5] 27); obtain ⟨V, eV⟩ : ∃ V, w5.alloc (.cells #[.slice wa wn wc, .slice qa5 qn5 qc5] 27) = V := ⟨_, rfl⟩; rw [eV] at hga hZ; have hgV := grown_trans hg5 hga; have hVs := hga.size; obtain ⟨z0, z1⟩ := two_cells hZ; have hBV := (hgV.block _ (lt_of_block hboxX) (by simp)).trans hboxX; obtain ⟨t0, t1⟩ := two_cells hBV; have tf0 : V.frozen? ⟨w.heap.size, 0, none⟩ = false := (by simp [World.frozen?, hBV]); have tf1 : V.frozen? ⟨w.heap.size, 1, none⟩ = false := (by simp [World.frozen?, hBV]); have hTV := (hgV.block _ (lt_of_block KX) (by simp)).trans KX; obtain ⟨y0, y1, y2⟩ := tag_cells hTV; have hRV := (hgV.block _ (lt_of_block hresX) (by simp)).trans hresX; have hX5 := hg5.size))
          have hs : V.grownBy ((V.setCell ⟨w.heap.size, 0, none⟩ (.slice wa wn wc)).setCell ⟨w.heap.size, 1, none⟩ (.slice qa5 qn5 qc5)) (some w.heap.size) := grown_trans (grown_set _ _ _ _) (grown_set _ _ _ _)
          refine ⟨⟨k + 1, off2, by omega, by go_num, rfl, ⟨⟨_, q + 1, _, (by have := HOFF.out; omega), HN.out, hoff3, (hr5.later hga).other hBV hs, ?_, HZN⟩, grown_new (grown_trans (grown_any (grown_trans G0 hgV) _) hs) (Nat.le_refl _), (hs.block _ (lt_of_block hRV) (by simp)).trans hRV⟩⟩, by simp [intOf]; omega⟩
          rw [heap_setCell_same (heap_setCell_same hBV _) _]; rfl
      · have hB' : 0 < (B k : Int) % 10 := by omega
        obtain ⟨u, eu⟩ : ∃ u : Nat, B k % 10 - 1 = u := ⟨_, rfl⟩
        have eu' : (B k : Int) % 10 - 1 = (u : Nat) := by omega
        have GX : wr.grownBy (wr.alloc (.cells #[.int .u64 s, .bool true, .int .i64 u] 78)) none := World.grownBy_alloc _ _ _
        have KX : (wr.alloc (.cells #[.int .u64 s, .bool true, .int .i64 u] 78)).heap[wr.heap.size]? = some (.cells #[.int .u64 s, .bool true, .int .i64 u] 78 (0, 0)) := heap_alloc_new' _ _
        have hrX := hrt.later GX
        have hboxX := (GX.block _ (lt_of_block hbox) (by simp)).trans hbox
        have hresX := (GX.block _ (lt_of_block hres) (by simp)).trans hres
        clear m0 m1
        obtain ⟨m0, m1⟩ := two_cells hboxX
        obtain ⟨x0, x1, x2⟩ := tag_cells KX
        by_cases hbr : 4800 < off + s + 48
        · have hbr' : 4800 < (off : Int) + (s : Int) + 48 := by omega
          have h16 := hL.top7
          obtain ⟨s2, es2⟩ : ∃ s2, 4800 - off = s2 := ⟨_, rfl⟩
          have e7 : IntKind.u64.wrap (4800 - (off : Int)) = (s2 : Nat) := by rw [IntKind.wrap_u64]; omega
          have hmy2 : mayP s2 false (0 : Nat) := by unfold mayP; simp; omega
          have hin2 : inP (txSee (fmt48 4800) l 16) off s2 := by rw [h16]; unfold inP; omega
          have hend : Laid7 (layB (fmt48 4800) l off s2 (packN s2 false (0 : Nat))) (q + 1) := by
            have hs1 := stands48 (n := 4800) (off := off) (by omega) (by omega)
            have hs2 := stands48 (n := 4800) (off := off + s2 - 8) (by omega) (by omega)
            obtain ⟨g1, g2, g3⟩ := layB_see (l := l) (p := packN s2 false (0 : Nat)) hs1 hs2 (by omega)
            have : LayP (fmt48 4800) (layB (fmt48 4800) l off s2 (packN s2 false (0 : Nat))) (off + s2) (q + 1) := hL.next7 hmy2 (by omega) ((hL.ok.store off (unpack_pack hmy2).1).store (off + s2 - 8) (unpack_pack hmy2).1) g1 g2 (fun e => by cases e) (fun x hx => g3 x (by omega) (by omega))
            rw [show off + s2 = 4800 by omega] at this
            exact this.done7 (hL.last7 hmy2 g1 fun x hx => g3 x (by omega) (by omega))
          have HEND := Lib.hid hend
          have HZE := Lib.hid (layG_over HGZ.out h1 es hbr es2)
          have hwr2 : Calls Try.prog 53 #[.agg #[.slice wa wn wc, .slice qa qn qc], .int .u64 off, .agg #[.int .u64 s2, .bool false, .int .i64 0]] (wr.alloc (.cells #[.int .u64 s, .bool true, .int .i64 u] 78)) _ := hwr (wr.alloc (.cells #[.int .u64 s, .bool true, .int .i64 u] 78)) _ l hrX (Nat.le_trans hbase (grown_trans hsince GX).size) hL.ok (by omega) off s2 false 0 (by omega) hmy2 hin2
          have G0 := grown_trans hsince GX
          clear hend hmy2 hin2 es2 h16 hL
          go_wp2_with (go_at_call 53; ((with_reducible refine hwr2.mono ?_); rintro e w5 ⟨pv5, rfl, hr5, hg5⟩; obtain ⟨qa5, qn5, qc5, hq5⟩ := pv_form hr5.puts; subst hq5; have hga := World.grownBy_alloc w5 (.cells #[.slice wa wn wc, .slice qa5 qn5 qc5] 27) none; have hZ := heap_alloc_new' w5 (.cells #[.slice wa wn wc, .slice qa5 qn5 qc5] 27); obtain ⟨z0, z1⟩ := two_cells hZ; have hR5 := ((grown_trans hg5 hga).block _ (lt_of_block hresX) (by simp)).trans hresX; obtain ⟨r0, r1⟩ := two_cells hR5; have fr0 : (w5.alloc (.cells #[.slice wa wn wc, .slice qa5 qn5 qc5] 27)).frozen? ⟨w.heap.size + 1, 0, none⟩ = false := (by simp [World.frozen?, hR5]); have fr1 : (w5.alloc (.cells #[.slice wa wn wc, .slice qa5 qn5 qc5] 27)).frozen? ⟨w.heap.size + 1, 1, none⟩ = false := (by simp [World.frozen?, hR5]); have HR5 := Lib.hid hR5; clear hR5))
          have hs : (w5.alloc (.cells #[.slice wa wn wc, .slice qa5 qn5 qc5] 27)).grownBy (((w5.alloc (.cells #[.slice wa wn wc, .slice qa5 qn5 qc5] 27)).setCell ⟨w.heap.size + 1, 0, none⟩ (.slice wa wn wc)).setCell ⟨w.heap.size + 1, 1, none⟩ (.slice qa5 qn5 qc5)) (some (w.heap.size + 1)) := grown_trans (grown_set _ _ _ _) (grown_set _ _ _ _)
          have hrE := (hr5.later hga).other HR5.out hs
          have hgE := grown_new (grown_trans (grown_any (grown_trans G0 (grown_trans hg5 hga)) _) hs) (by omega)
          have B4 : (((w5.alloc (.cells #[.slice wa wn wc, .slice qa5 qn5 qc5] 27)).setCell ⟨w.heap.size + 1, 0, none⟩ (.slice wa wn wc)).setCell ⟨w.heap.size + 1, 1, none⟩ (.slice qa5 qn5 qc5)).heap[w.heap.size + 1]? = some (.cells #[.slice wa wn wc, .slice qa5 qn5 qc5] 27 (0, 0)) := by
            rw [heap_setCell_same (heap_setCell_same HR5.out _) _]; rfl
          obtain ⟨k0, k1⟩ := two_cells B4
          refine bodyPost_ret (v := .agg #[.slice wa wn wc, .slice qa5 qn5 qc5]) (by simp [results, Try.results31, go_sem, k0, k1]) rfl ?_
          exact ⟨_, _, _, rfl, hrE, HEND.out, hgE, by omega, by omega, HZE.out⟩
        · have hbr' : ¬ 4800 < (off : Int) + (s : Int) + 48 := by omega
          obtain ⟨d, ed⟩ : ∃ d : Nat, s - 39 = d := ⟨_, rfl⟩
          obtain ⟨v, ev⟩ : ∃ v : Nat, C k % d = v := ⟨_, rfl⟩
          have hv : v + 40 ≤ s := by have := Nat.mod_lt (C k) (show 0 < d by omega); omega
          have h16 := hL.top7
          have hmy2 : mayP s true (u : Nat) := by unfold mayP; simp; omega
          have hin2 : inP (txSee (fmt48 4800) l 16) off s := by rw [h16]; unfold inP; omega
          have hs1 := stands48 (n := 4800) (off := off) (by omega) (by omega)
          have hs2 := stands48 (n := 4800) (off := off + s - 8) (by omega) (by omega)
          obtain ⟨g1, g2, g3⟩ := layB_see (l := l) (p := packN s true (u : Nat)) hs1 hs2 (by omega)
          have hokB : TxOk (fmt48 4800) (layB (fmt48 4800) l off s (packN s true (u : Nat))) := (hL.ok.store off (unpack_pack hmy2).1).store (off + s - 8) (unpack_pack hmy2).1
          have hlenB : (layB (fmt48 4800) l off s (packN s true (u : Nat))).length ≤ 1000000 := by have := hokB.len; rw [fmt48_len] at this; omega
          have hwr2 : Calls Try.prog 53 #[.agg #[.slice wa wn wc, .slice qa qn qc], .int .u64 off, .agg #[.int .u64 s, .bool true, .int .i64 u]] (wr.alloc (.cells #[.int .u64 s, .bool true, .int .i64 u] 78)) _ := hwr (wr.alloc (.cells #[.int .u64 s, .bool true, .int .i64 u] 78)) _ l hrX (Nat.le_trans hbase (grown_trans hsince GX).size) hL.ok (by omega) off s true u (by omega) hmy2 hin2
          have hs3 := stands48 (n := 4800) (off := off + 8) (by omega) (by omega)
          have hokC : TxOk (fmt48 4800) (txStore (fmt48 4800) (layB (fmt48 4800) l off s (packN s true (u : Nat))) (off + 8) v) := hokB.store _ (by omega)
          have hnext : LayP (fmt48 4800) (txStore (fmt48 4800) (layB (fmt48 4800) l off s (packN s true (u : Nat))) (off + 8) v) (off + s) (q + 1) :=
            hL.next7 hmy2 (by omega) hokC (by rw [see_stored hs3, if_neg (by omega)]; exact g1) (by rw [see_stored hs3, if_neg (by omega)]; exact g2) (fun _ => by rw [see_stored hs3, if_pos rfl]; omega) (fun x hx => by rw [see_stored hs3, if_neg (by omega)]; exact g3 x (by omega) (by omega))
          have HN := Lib.hid hnext
          have HZN := Lib.hid (layG_used HGZ.out h1 es hbr hB eu ed ev)
          have G0 := grown_trans hsince GX
          have e9 : (off : Int) + (s : Int) = ((off + s : Nat) : Int) := by omega
          obtain ⟨off2, eoff2⟩ : ∃ x, off + s = x := ⟨_, rfl⟩
          rw [eoff2] at e9 HN HZN
          have HLB := Lib.hid hlenB
          have HOFF := Lib.hid eoff2
          have hoff3 : off2 + 48 ≤ 4800 := by omega
          have hbr2 : ¬ 4800 < (off2 : Int) + 48 := by omega
          clear hlenB eoff2 hL hbr hbr'
          clear hnext hmy2 hin2 h16 g1 g2 g3 hs1 hs2 hokB
          have hltw := lt_of_block hbox
          have n1 : ¬ wr.heap.size = w.heap.size := by omega
          have n2 : ¬ w.heap.size = wr.heap.size := by omega
          obtain ⟨b8, eb8⟩ : ∃ b8, off + 8 = b8 := ⟨_, rfl⟩
          have e8 : IntKind.u64.wrap ((off : Int) + 8) = (b8 : Nat) := by rw [IntKind.wrap_u64]; omega
          have hb8 : b8 < 4800 := by omega
          rw [eb8] at HN HZN
          clear eb8
          have e10 : IntKind.u64.wrap ((s : Int) - 39) = (d : Nat) := by rw [IntKind.wrap_u64]; omega
          have e11 : IntKind.u64.wrap (C k : Int) = (C k : Nat) := by rw [IntKind.wrap_u64]; omega
          have e12 : (C k : Int).tmod (d : Nat) = (v : Nat) := by rw [← ev]; rfl
          have e13 : ¬ d = 0 := by omega
          have e14 : ¬ ((d : Nat) : Int) = 0 := by omega
          clear ed ev
          go_wp2_with (go_at_call 53; ((with_reducible refine hwr2.mono ?_); rintro e w5 ⟨pv5, rfl, hr5, hg5⟩; obtain ⟨qa5, qn5, qc5, hq5⟩ := pv_form hr5.puts; subst hq5; have hga := World.grownBy_alloc w5 (.cells #[.slice wa wn wc, .slice qa5 qn5 qc5] 27) none; have hZ := heap_alloc_new' w5 (.cells #[.slice wa wn wc, .slice qa5 qn5 qc5] 27); obtain ⟨V, eV⟩ : ∃ V, w5.alloc (.cells #[.slice wa wn wc, .slice qa5 qn5 qc5] 27) = V := ⟨_, rfl⟩; rw [eV] at hga hZ; have hgV := grown_trans hg5 hga; have hVs := hga.size; obtain ⟨z0, z1⟩ := two_cells hZ; have hBV := (hgV.block _ (lt_of_block hboxX) (by simp)).trans hboxX; obtain ⟨t0, t1⟩ := two_cells hBV; have tf0 : V.frozen? ⟨w.heap.size, 0, none⟩ = false := (by simp [World.frozen?, hBV]); have tf1 : V.frozen? ⟨w.heap.size, 1, none⟩ = false := (by simp [World.frozen?, hBV]); have hTV := (hgV.block _ (lt_of_block KX) (by simp)).trans KX; obtain ⟨y0, y1, y2⟩ := tag_cells hTV; have hRV := (hgV.block _ (lt_of_block hresX) (by simp)).trans hresX; have hX5 := hg5.size; have c2V := (World.cell?_of_block (w := wr) (a := ⟨b, o + k * 3 + 2, none⟩) ((grown_trans GX hgV).block b hb (by simp))).trans c2))
          have hz5 : w.heap.size < w5.heap.size ∧ wr.heap.size < w5.heap.size := by have := GX.size; rw [World.size_alloc] at this; have h5 := hX5; rw [World.size_alloc] at h5; omega
          have n3 : ¬ w5.heap.size = w.heap.size := by omega
          have n4 : ¬ w.heap.size = w5.heap.size := by omega
          have n5 : ¬ w5.heap.size = wr.heap.size := by omega
          have n6 : ¬ wr.heap.size = w5.heap.size := by omega
          have hst2 := hst V.drew _ _ ((hr5.later hga).later (grown_drew (grown_refl _ _))) (Nat.le_trans hbase (grown_trans G0 hgV).size) HLB.out b8 v (by omega)
          go_still_tail 13, (by kernel_rfl)
          go_wp2_with (go_at_call 27; refine hst2.mono ?_; rintro e w6 ⟨pv6, rfl, hr6, hg6⟩; obtain ⟨qa6, qn6, qc6, hq6⟩ := pv_form hr6.puts; subst hq6; have hgd : V.grownBy w6 none := grown_trans (grown_drew (grown_refl _ _)) hg6; have hZ6 := (hgd.block _ (lt_of_block hZ) (by simp)).trans hZ; obtain ⟨z2, z3⟩ := two_cells hZ6; have zf0 : w6.frozen? ⟨w5.heap.size, 0, none⟩ = false := (by simp [World.frozen?, hZ6]); have zf1 : w6.frozen? ⟨w5.heap.size, 1, none⟩ = false := (by simp [World.frozen?, hZ6]); have hB6 := (hgd.block _ (lt_of_block hBV) (by simp)).trans hBV; obtain ⟨t2, t3⟩ := two_cells hB6; have tf2 : w6.frozen? ⟨w.heap.size, 0, none⟩ = false := (by simp [World.frozen?, hB6]); have tf3 : w6.frozen? ⟨w.heap.size, 1, none⟩ = false := (by simp [World.frozen?, hB6]); have hT6 := (hgd.block _ (lt_of_block hTV) (by simp)).trans hTV; obtain ⟨y3, y4, y5⟩ := tag_cells hT6; have hR6 := (hgd.block _ (lt_of_block hRV) (by simp)).trans hRV)
          have hs1 : w6.grownBy ((w6.setCell ⟨w5.heap.size, 0, none⟩ (.slice wa wn wc)).setCell ⟨w5.heap.size, 1, none⟩ (.slice qa6 qn6 qc6)) (some w5.heap.size) := grown_trans (grown_set _ _ _ _) (grown_set _ _ _ _)
          have hB7 := (hs1.block _ (lt_of_block hB6) (by simp; omega)).trans hB6
          have hR7 := (hs1.block _ (lt_of_block hR6) (by simp; omega)).trans hR6
          have hr7 := hr6.other hZ6 hs1
          obtain ⟨W7, eW7⟩ : ∃ W7, (w6.setCell ⟨w5.heap.size, 0, none⟩ (.slice wa wn wc)).setCell ⟨w5.heap.size, 1, none⟩ (.slice qa6 qn6 qc6) = W7 := ⟨_, rfl⟩
          rw [eW7] at hs1 hB7 hR7 hr7 ⊢
          have hs2 : W7.grownBy ((W7.setCell ⟨w.heap.size, 0, none⟩ (.slice wa wn wc)).setCell ⟨w.heap.size, 1, none⟩ (.slice qa6 qn6 qc6)) (some w.heap.size) := grown_trans (grown_set _ _ _ _) (grown_set _ _ _ _)
          refine ⟨⟨k + 1, off2, by omega, by go_num, rfl, ⟨⟨_, q + 1, _, (by have := HOFF.out; omega), HN.out, hoff3, hr7.other hB7 hs2, ?_, HZN⟩, grown_new (grown_trans (grown_any (grown_new (grown_trans (grown_any (grown_trans G0 (grown_trans hgV hgd)) _) hs1) (by omega)) _) hs2) (Nat.le_refl _), (hs2.block _ (lt_of_block hR7) (by simp)).trans hR7⟩⟩, by simp [intOf]; omega⟩
          rw [heap_setCell_same (heap_setCell_same hB7 _) _]; rfl
    · obtain rfl : k = n := by omega
      obtain ⟨X0, eX0⟩ : ∃ X0, wr = X0 := ⟨_, rfl⟩
      subst eX0
      have GX := grown_refl wr none
      have hrX := hrt
      have hresX := hres
      have h16 := hL.top7
      obtain ⟨s2, es2⟩ : ∃ s2, 4800 - off = s2 := ⟨_, rfl⟩
      have e7 : IntKind.u64.wrap (4800 - (off : Int)) = (s2 : Nat) := by rw [IntKind.wrap_u64]; omega
      have hmy2 : mayP s2 false (0 : Nat) := by unfold mayP; simp; omega
      have hin2 : inP (txSee (fmt48 4800) l 16) off s2 := by rw [h16]; unfold inP; omega
      have hend : Laid7 (layB (fmt48 4800) l off s2 (packN s2 false (0 : Nat))) (q + 1) := by
        have hs1 := stands48 (n := 4800) (off := off) (by omega) (by omega)
        have hs2 := stands48 (n := 4800) (off := off + s2 - 8) (by omega) (by omega)
        obtain ⟨g1, g2, g3⟩ := layB_see (l := l) (p := packN s2 false (0 : Nat)) hs1 hs2 (by omega)
        have : LayP (fmt48 4800) (layB (fmt48 4800) l off s2 (packN s2 false (0 : Nat))) (off + s2) (q + 1) := hL.next7 hmy2 (by omega) ((hL.ok.store off (unpack_pack hmy2).1).store (off + s2 - 8) (unpack_pack hmy2).1) g1 g2 (fun e => by cases e) (fun x hx => g3 x (by omega) (by omega))
        rw [show off + s2 = 4800 by omega] at this
        exact this.done7 (hL.last7 hmy2 g1 fun x hx => g3 x (by omega) (by omega))
      have HEND := Lib.hid hend
      have HZE := Lib.hid (layG_end HGZ.out es2)
      have hwr2 : Calls Try.prog 53 #[.agg #[.slice wa wn wc, .slice qa qn qc], .int .u64 off, .agg #[.int .u64 s2, .bool false, .int .i64 0]] wr _ := hwr wr _ l hrX (Nat.le_trans hbase (grown_trans hsince GX).size) hL.ok (by omega) off s2 false 0 (by omega) hmy2 hin2
      have G0 := grown_trans hsince GX
      clear hend hmy2 hin2 es2 h16 hL
      go_wp2_with (go_at_call 53; ((with_reducible refine hwr2.mono ?_); rintro e w5 ⟨pv5, rfl, hr5, hg5⟩; obtain ⟨qa5, qn5, qc5, hq5⟩ := pv_form hr5.puts; subst hq5; have hga := World.grownBy_alloc w5 (.cells #[.slice wa wn wc, .slice qa5 qn5 qc5] 27) none; have hZ := heap_alloc_new' w5 (.cells #[.slice wa wn wc, .slice qa5 qn5 qc5] 27); obtain ⟨z0, z1⟩ := two_cells hZ; have hR5 := ((grown_trans hg5 hga).block _ (lt_of_block hresX) (by simp)).trans hresX; obtain ⟨r0, r1⟩ := two_cells hR5; have fr0 : (w5.alloc (.cells #[.slice wa wn wc, .slice qa5 qn5 qc5] 27)).frozen? ⟨w.heap.size + 1, 0, none⟩ = false := (by simp [World.frozen?, hR5]); have fr1 : (w5.alloc (.cells #[.slice wa wn wc, .slice qa5 qn5 qc5] 27)).frozen? ⟨w.heap.size + 1, 1, none⟩ = false := (by simp [World.frozen?, hR5]); have HR5 := Lib.hid hR5; clear hR5))
      have hs : (w5.alloc (.cells #[.slice wa wn wc, .slice qa5 qn5 qc5] 27)).grownBy (((w5.alloc (.cells #[.slice wa wn wc, .slice qa5 qn5 qc5] 27)).setCell ⟨w.heap.size + 1, 0, none⟩ (.slice wa wn wc)).setCell ⟨w.heap.size + 1, 1, none⟩ (.slice qa5 qn5 qc5)) (some (w.heap.size + 1)) := grown_trans (grown_set _ _ _ _) (grown_set _ _ _ _)
      have hrE := (hr5.later hga).other HR5.out hs
      have hgE := grown_new (grown_trans (grown_any (grown_trans G0 (grown_trans hg5 hga)) _) hs) (by omega)
      have B4 : (((w5.alloc (.cells #[.slice wa wn wc, .slice qa5 qn5 qc5] 27)).setCell ⟨w.heap.size + 1, 0, none⟩ (.slice wa wn wc)).setCell ⟨w.heap.size + 1, 1, none⟩ (.slice qa5 qn5 qc5)).heap[w.heap.size + 1]? = some (.cells #[.slice wa wn wc, .slice qa5 qn5 qc5] 27 (0, 0)) := by
        rw [heap_setCell_same (heap_setCell_same HR5.out _) _]; rfl
      obtain ⟨k0, k1⟩ := two_cells B4
      refine bodyPost_ret (v := .agg #[.slice wa wn wc, .slice qa5 qn5 qc5]) (by simp [results, Try.results31, go_sem, k0, k1]) rfl ?_
      exact ⟨_, _, _, rfl, hrE, HEND.out, hgE, by omega, by omega, HZE.out⟩
theorem rlay7_any {w : World} {base : Nat} {wv pv : Value} (h : RTx w base wv pv (fmt48 4800) []) (hbase : base ≤ w.heap.size) (hlt : ∀ x ∈ fmt48 4800, x < 18446744073709551616) {la : Option Addr} {n c : Nat} {A B C : Nat → Nat} (hp : PiecesAt w la n A B C) (hn : n ≤ 20) :
    Calls Try.prog 31 #[.agg #[wv, pv], .slice la n c] w fun e w' => ∃ l pv' N, e = .returned (.agg #[wv, pv']) ∧ RTx w' base wv pv' (fmt48 4800) l ∧ Laid7 l N ∧ w.grownBy w' none ∧ N ≤ n + 1 :=
  (rlay7_more (c := c) h hbase hlt hp hn).mono fun e w' ⟨l, pv', N, h1, h2, h3, h4, h5, _⟩ => ⟨l, pv', N, h1, h2, h3, h4, h5⟩
end Go.Proofs.Ytkpopaadkfgjaaa
