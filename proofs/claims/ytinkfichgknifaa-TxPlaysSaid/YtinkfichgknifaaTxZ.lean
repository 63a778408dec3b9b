/-
  The contract of 'thought': a Tx over a segment, in which words were thought of, and the plain answer's.
  Conditions: the pairs lie in memory.
-/
import Derived.Test.YtinkfichgknifaaTxY
namespace Go.Proofs.Ytinkfichgknifaa
open Go.RowKit
set_option linter.unusedVariables false
set_option linter.unusedSimpArgs false

/-- A block of a plain answer's own is turned, and nothing of the Tx. -/
theorem Txs.other {w0 w w' : World} {T M : Nat} {R : Option Nat} {B D : Nat} {ws : List Nat} {l : List (Nat × Nat)} (h : Txs w0 w T M R B D ws l) {b : Nat} {c : Array Value} (hb : w.heap[b]? = some (.cells c 29 (0, 0))) (hn : w0.heap.size ≤ b) (hg : w.grownBy w' (some b)) : Txs w0 w' T M R B D ws l where
  tx := h.tx.turned (Turned.of_grown hg) (fun k hk => by
    injection hk with hk
    subst hk
    exact ⟨h.tx.far hb (by decide) (by decide), fun e => ne_type hb h.tx.seg.head (by decide) e, fun e => ne_type hb h.tx.seg.data (by decide) e⟩)
  since := grown_step h.since hg (fun i hi => .inl (by injection hi with hi; omega))
  newT := h.newT
  newM := h.newM
  newR := h.newR
  newB := h.newB
  newD := h.newD
theorem RTx.other {w w' : World} {base : Nat} {wv pv : Value} {ws : List Nat} {l : List (Nat × Nat)} (h : RTx w base wv pv ws l) {b : Nat} {c : Array Value} (hb : w.heap[b]? = some (.cells c 29 (0, 0))) (hg : w.grownBy w' (some b)) : RTx w' base wv pv ws l where
  words := row_turned h.words (Turned.of_grown hg) (fun g hg' e => by
    injection e with e
    subst e
    obtain ⟨_, cur, h4⟩ := row_block h.words hg'
    exact ne_type hb h4 (by decide) rfl)
  puts := row_turned h.puts (Turned.of_grown hg) (fun g hg' e => by
    injection e with e
    subst e
    obtain ⟨_, cur, h4⟩ := row_block h.puts hg'
    exact ne_type hb h4 (by decide) rfl)
/-- What holds at the head of the loop. -/
structure ThRel (w : World) (T M B D bx b6 : Nat) (wv : Value) (ws : List Nat) (l : List (Nat × Nat)) (wr : World) : Prop where
  tx : ∃ R, Txs w wr T M R B D ws l ∧ ∀ g, wv.ownBlock = some g → R ≠ some g
  box : ∃ pv, wr.heap[bx]? = some (.cells #[wv, pv] 29 (0, 0)) ∧ RTx wr w.heap.size wv pv ws l
  res : wr.heap[b6]? = some (.cells #[.slice none 0 0, .slice none 0 0] 29 (0, 0))
theorem ThRel.later {w w' wr : World} {T M B D bx b6 : Nat} {wv : Value} {ws : List Nat} {l : List (Nat × Nat)} (h : ThRel w T M B D bx b6 wv ws l wr) (hg : wr.grownBy w' none) : ThRel w T M B D bx b6 wv ws l w' := by
  obtain ⟨R, h1, h2⟩ := h.tx
  obtain ⟨pv, h3, h4⟩ := h.box
  exact ⟨⟨R, h1.later hg, h2⟩, ⟨pv, (hg.block _ (lt_of_block h3) (by simp)).trans h3, h4.later hg⟩, (hg.block _ (lt_of_block h.res) (by simp)).trans h.res⟩
/-- What Thought makes of it: the Tx has the word, the plain answer hasn't. -/
structure ThMid (w : World) (T M B D bx b6 : Nat) (wv : Value) (ws : List Nat) (l l' : List (Nat × Nat)) (wr : World) : Prop where
  tx : ∃ R, Txs w wr T M R B D ws l' ∧ ∀ g, wv.ownBlock = some g → R ≠ some g
  box : ∃ pv, wr.heap[bx]? = some (.cells #[wv, pv] 29 (0, 0)) ∧ RTx wr w.heap.size wv pv ws l
  res : wr.heap[b6]? = some (.cells #[.slice none 0 0, .slice none 0 0] 29 (0, 0))
theorem ThMid.later {w w' wr : World} {T M B D bx b6 : Nat} {wv : Value} {ws : List Nat} {l l' : List (Nat × Nat)} (h : ThMid w T M B D bx b6 wv ws l l' wr) (hg : wr.grownBy w' none) : ThMid w T M B D bx b6 wv ws l l' w' := by
  obtain ⟨R, h1, h2⟩ := h.tx
  obtain ⟨pv, h3, h4⟩ := h.box
  exact ⟨⟨R, h1.later hg, h2⟩, ⟨pv, (hg.block _ (lt_of_block h3) (by simp)).trans h3, h4.later hg⟩, (hg.block _ (lt_of_block h.res) (by simp)).trans h.res⟩
/-- The first store. -/
theorem ThRel.store {w wr : World} {T M B D bx b6 : Nat} {wv : Value} {ws : List Nat} {l : List (Nat × Nat)} (h : ThRel w T M B D bx b6 wv ws l wr) (off v : Nat) (ho : off < 18446744073709551616) (hv : v < 18446744073709551616) :
    Calls Try.prog 27 #[.pointer (some ⟨T, 0, none⟩), .int .u64 off, .int .u64 v] wr fun e w' => e = .returned (.tuple #[]) ∧ ThMid w T M B D bx b6 wv ws l (txStore ws l off v) w' := by
  obtain ⟨R, h1, h2⟩ := h.tx
  refine (txstore_any h1.tx off v ho hv).mono ?_
  rintro e w' ⟨rfl, ht⟩
  obtain ⟨R', k1, k2, k3⟩ := h1.step ht
  obtain ⟨pv, h3, h4⟩ := h.box
  refine ⟨rfl, ⟨R', k1, fun g hg => ?_⟩, ⟨pv, k2.heap h3 (h1.tx.far h3 (by decide) (by decide)), ⟨OwnW.past h1.tx k2 h4.words h2, OwnP.past h1.tx k2 h4.puts⟩⟩, k2.heap h.res (h1.tx.far h.res (by decide) (by decide))⟩
  rcases k3 with rfl | ⟨g', rfl, hg'⟩
  · exact h2 g hg
  · intro e
    injection e with e
    obtain ⟨_, cur, hb⟩ := row_block h4.words hg
    have := lt_of_block hb
    omega
/-- The second one. -/
theorem ThMid.stored {w wr w4 : World} {T M B D bx b6 : Nat} {wv pv' : Value} {ws : List Nat} {l l' : List (Nat × Nat)} (h : ThMid w T M B D bx b6 wv ws l l' wr) (hg : wr.grownBy w4 none) (hr : RTx w4 w.heap.size wv pv' ws l') (hbx : w.heap.size ≤ bx) (hne : bx ≠ b6) :
    ThRel w T M B D bx b6 wv ws l' ((w4.setCell ⟨bx, 0, none⟩ wv).setCell ⟨bx, 1, none⟩ pv') := by
  obtain ⟨R, h1, h2⟩ := h.tx
  obtain ⟨pv, h3, _⟩ := h.box
  have h3' := (hg.block _ (lt_of_block h3) (by simp)).trans h3
  have hs : w4.grownBy ((w4.setCell ⟨bx, 0, none⟩ wv).setCell ⟨bx, 1, none⟩ pv') (some bx) := grown_trans (grown_set _ _ _ _) (grown_set _ _ _ _)
  refine ⟨⟨R, (h1.later hg).other h3' hbx hs, h2⟩, ⟨pv', ?_, hr.other h3' hs⟩, ?_⟩
  · rw [heap_setCell_same (heap_setCell_same h3' wv) pv']; rfl
  · have := (hg.block _ (lt_of_block h.res) (by simp)).trans h.res
    exact (hs.block _ (lt_of_block this) (by simpa using hne.symm)).trans this
/-- What thought tells. -/
def Thought3 (w : World) (ws : List Nat) (l : List (Nat × Nat)) (e : Ending) (w' : World) : Prop :=
  ∃ B D T M R wv pv, e = .returned (.tuple #[.pointer (some ⟨B, 0, none⟩), .pointer (some ⟨T, 0, none⟩), .agg #[wv, pv]]) ∧ Txs w w' T M R B D ws l ∧ RTx w' w.heap.size wv pv ws l ∧ ∀ g, wv.ownBlock = some g → R ≠ some g
theorem wv_form {w : World} {base : Nat} {v : Value} {ws : List Nat} (h : OwnW w base v ws) : ∃ a n c, v = .slice a n c := by
  obtain ⟨a, c, h⟩ := h.slice
  exact ⟨a, _, c, h⟩
theorem pv_form {w : World} {base : Nat} {v : Value} {l : List (Nat × Nat)} (h : OwnP w base v l) : ∃ a n c, v = .slice a n c := by
  obtain ⟨a, c, g, h, _⟩ := h.addr
  exact ⟨a, _, c, h⟩
set_option maxHeartbeats 2000000 in
theorem thought_any {w : World} {la la2 : Option Addr} {n n2 c c2 : Nat} {X V X2 V2 : Nat → Nat} (hp : PutsAt w la n X V) (hn : n ≤ maxLen) (hp2 : PutsAt w la2 n2 X2 V2) (hn2 : n2 ≤ maxLen) :
    Calls Try.prog 10 #[.slice la n c, .slice la2 n2 c2] w (Thought3 w (ten X V (min n 40)) (thinkL (ten X V (min n 40)) X2 V2 (min n2 40))) := by
  have hf := fun w' (hg : w.grownBy w' none) => filled_ten (c := c) (hp.later hg) hn
  have hten := ten_len X V (min n 40)
  obtain ⟨ws, hws⟩ : ∃ ws, ten X V (min n 40) = ws := ⟨_, rfl⟩
  rw [hws] at hf hten ⊢
  unfold maxLen at hn2
  have hg0 : w.grownBy (w.alloc (.cells #[.slice none 0 0, .slice none 0 0] 29)) none := World.grownBy_alloc _ _ _
  have hres0 : (w.alloc (.cells #[.slice none 0 0, .slice none 0 0] 29)).heap[w.heap.size]? = some (.cells #[.slice none 0 0, .slice none 0 0] 29 (0, 0)) := heap_alloc_new' _ _
  clear hws hp
  go_enter Try.func10, Try.ntmps10
  go_wp2_with (first | (go_at_call 11; refine (hf _ hg0).mono ?_; rintro e w1 ⟨B, D, wv, rfl, R1, hs1, hB1, hD1⟩; obtain ⟨wa, wn, wc, hwv⟩ := wv_form R1.own; subst hwv) | (go_at_call 26; refine (txnew_yes hs1).mono ?_; rintro e w2 ⟨rfl, hg2, ht2⟩))
  have hs01 : w.heap.size + 1 ≤ w1.heap.size := by have := R1.grown.size; simpa using this
  have hg12 : w1.heap.size ≤ w2.heap.size := hg2.size
  have hbxn : w.heap.size ≤ w2.heap.size := by omega
  have hbxne : w2.heap.size ≠ w.heap.size := by omega
  have hg3 : w2.grownBy (w2.alloc (.cells #[.slice wa wn wc, .slice none 0 0] 29)) none := World.grownBy_alloc _ _ _
  have R0 : ThRel w (w1.heap.size + 1) w1.heap.size B D w2.heap.size w.heap.size (.slice wa wn wc) ws (thinkL ws X2 V2 0) (w2.alloc (.cells #[.slice wa wn wc, .slice none 0 0] 29)) := by
    have hg1 := grown_trans hg0 R1.grown
    have hsz : w.heap.size ≤ (w.alloc (.cells #[.slice none 0 0, .slice none 0 0] 29)).heap.size := hg0.size
    refine ⟨⟨none, ⟨ht2.later hg3, grown_trans (grown_trans hg1 hg2) hg3, by omega, by omega, (fun g hg => by cases hg), by omega, by omega⟩, fun g _ hg => by cases hg⟩, ⟨_, heap_alloc_new' _ _, ⟨(((R1.own.mono hsz).later hg2).later hg3), World.ownsRow_nil _ _ _ _⟩⟩, ?_⟩
    have h1 := (R1.grown.block _ (lt_of_block hres0) (by simp)).trans hres0
    have h2 := (hg2.block _ (lt_of_block h1) (by simp)).trans h1
    exact (hg3.block _ (lt_of_block h2) (by simp)).trans h2
  clear R1 hs1 hB1 hD1 ht2 hg2 hg3 hf
  generalize w2.heap.size = bx at *
  go_loopw [11] (fun i wr => ∃ k : Nat, k ≤ min n2 40 ∧ i = .int .i64 k ∧ ThRel w (w1.heap.size + 1) w1.heap.size B D bx w.heap.size (.slice wa wn wc) ws (thinkL ws X2 V2 k) wr) (fun i _ => 40 - (intOf i).toNat)
  case atStart => exact ⟨0, Nat.zero_le _, rfl, R0⟩
  case round =>
    obtain ⟨k, hk, rfl, R⟩ := hrel
    clear R0
    by_cases hlt : k < min n2 40
    · have hn0 : k < n2 := by omega
      have h40 : k < 40 := by omega
      have hgr : w.grownBy wr none := by obtain ⟨_, h1, _⟩ := R.tx; exact h1.since
      obtain ⟨b, off, rfl, hb, hcs⟩ := (hp2.later hgr).cells (by omega)
      obtain ⟨c1, c2⟩ := hcs k hn0
      clear hcs
      have hx := (hp2.lt k).1
      have hv := (hp2.lt k).2
      have hq1 : wr.grownBy wr.drew none := grown_drew (grown_refl _ _)
      have hst := (R.later hq1).store (X2 k) (V2 k) hx hv
      go_wp2
      go_still_tail 11, (by kernel_rfl)
      go_wp2_with (go_at_call 27; refine hst.mono ?_; rintro e v2 ⟨rfl, Q⟩)
      have hgr2 : w.grownBy v2 none := by obtain ⟨_, h1, _⟩ := Q.tx; exact h1.since
      have hq2 : v2.grownBy v2.drew none := grown_drew (grown_refl _ _)
      obtain ⟨pv, hbox, hrt⟩ := Q.box
      obtain ⟨pa, pn, pc, hpv⟩ := pv_form hrt.puts
      subst hpv
      obtain ⟨b', off', hbo, hb', hcs⟩ := (hp2.later hgr2).cells (by omega)
      injection hbo with hbo
      injection hbo with hbo1 hbo2
      subst hbo1
      subst hbo2
      clear c1 c2
      obtain ⟨c1, c2⟩ := hcs k hn0
      clear hcs
      have d0 : v2.cell? ⟨bx, 0, none⟩ = some (.slice wa wn wc) := by simp [World.cell?, hbox]
      have d1 : v2.cell? ⟨bx, 1, none⟩ = some (.slice pa pn pc) := by simp [World.cell?, hbox]
      have hlen : (thinkL ws X2 V2 k).length ≤ 1000000 := by
        have := (thinkL_ok (ws := ws) (X := X2) (fun i => (hp2.lt i).2) k).len
        omega
      have hrs := rtxstore_any (hrt.later hq2) (grown_trans hgr2 hq2).size (by omega) hlen (X2 k) (V2 k) hx
      have HQ := Lib.hid Q
      have HB := Lib.hid hbox
      clear hbox Q hst hrt
      go_still_tail 11, (by kernel_rfl)
      go_wp2_with (go_at_call 31; refine hrs.mono ?_; rintro e v4 ⟨pv', rfl, hr4, hg4⟩; obtain ⟨pa', pn', pc', hpv'⟩ := pv_form hr4.puts; subst hpv'; have hb4 := (hg4.block _ (lt_of_block HB.out) (by simp)).trans HB.out; have e0 : v4.cell? ⟨bx, 0, none⟩ = some (.slice wa wn wc) := (by simp [World.cell?, hb4]); have e1 : v4.cell? ⟨bx, 1, none⟩ = some (.slice pa pn pc) := (by simp [World.cell?, hb4]); have f0 : v4.frozen? ⟨bx, 0, none⟩ = false := (by simp [World.frozen?, hb4]); have f1 : v4.frozen? ⟨bx, 1, none⟩ = false := (by simp [World.frozen?, hb4]); clear hb4)
      go_roundw
      case rel => exact ⟨k + 1, by omega, by go_num, HQ.out.stored (grown_trans hq2 hg4) hr4 hbxn hbxne⟩
      case measure => simp [intOf]; omega
    · obtain ⟨N, hN⟩ : ∃ N, min n2 40 = N := ⟨_, rfl⟩
      rw [hN] at hk hlt ⊢
      obtain rfl : k = N := by omega
      have HN := Lib.hid hN
      obtain ⟨Rr, hT, hap⟩ := R.tx
      obtain ⟨pv, hbox, hrt⟩ := R.box
      obtain ⟨pa, pn, pc, hpv⟩ := pv_form hrt.puts
      subst hpv
      have hres := R.res
      have d0 : wr.cell? ⟨bx, 0, none⟩ = some (.slice wa wn wc) := by simp [World.cell?, hbox]
      have d1 : wr.cell? ⟨bx, 1, none⟩ = some (.slice pa pn pc) := by simp [World.cell?, hbox]
      have e0 : wr.cell? ⟨w.heap.size, 0, none⟩ = some (.slice none 0 0) := by simp [World.cell?, hres]
      have e1 : wr.cell? ⟨w.heap.size, 1, none⟩ = some (.slice none 0 0) := by simp [World.cell?, hres]
      have f0 : wr.frozen? ⟨w.heap.size, 0, none⟩ = false := by simp [World.frozen?, hres]
      have f1 : wr.frozen? ⟨w.heap.size, 1, none⟩ = false := by simp [World.frozen?, hres]
      have HR := Lib.hid hres
      clear hres hbox hN R
      have hend : Thought3 w ws (thinkL ws X2 V2 k) (.returned (.tuple #[.pointer (some ⟨B, 0, none⟩), .pointer (some ⟨w1.heap.size + 1, 0, none⟩), .agg #[.slice wa wn wc, .slice pa pn pc]])) ((wr.setCell ⟨w.heap.size, 0, none⟩ (.slice wa wn wc)).setCell ⟨w.heap.size, 1, none⟩ (.slice pa pn pc)).drew := by
        have hs : wr.grownBy ((wr.setCell ⟨w.heap.size, 0, none⟩ (.slice wa wn wc)).setCell ⟨w.heap.size, 1, none⟩ (.slice pa pn pc)).drew (some w.heap.size) := grown_drew (grown_trans (grown_set _ _ _ _) (grown_set _ _ _ _))
        exact ⟨_, _, _, _, _, _, _, rfl, hT.other HR.out (Nat.le_refl _) hs, hrt.other HR.out hs, hap⟩
      have HE := Lib.hid hend
      clear hend
      by_cases hkn : k < n2
      · have h40 : ¬ k < 40 := by have := HN.out; omega
        go_wp2
        go_region
        all_goals go_wp2
        refine bodyPost_ret (v := .tuple #[.pointer (some ⟨B, 0, none⟩), .pointer (some ⟨w1.heap.size + 1, 0, none⟩), .agg #[.slice wa wn wc, .slice pa pn pc]]) (by simp [results, Try.results10, go_sem, e0, e1]) rfl (by rw [HN.out]; exact HE.out)
      · go_wp2
        go_region
        all_goals go_wp2
        refine bodyPost_ret (v := .tuple #[.pointer (some ⟨B, 0, none⟩), .pointer (some ⟨w1.heap.size + 1, 0, none⟩), .agg #[.slice wa wn wc, .slice pa pn pc]]) (by simp [results, Try.results10, go_sem, e0, e1]) rfl (by rw [HN.out]; exact HE.out)
end Go.Proofs.Ytinkfichgknifaa
