/-
  Package carve: what 'free' hands back, as an iterator: it tells the free blocks that are large enough, by their keys.
  Conditions: the Tx stands in memory, over a segment of 4800 bytes; its words tell the tree of the free blocks.
-/
import Derived.Test.YtoamlkljfmgomaaGreatCarN
import Derived.Test.YtoamlkljfmgomaaGreatCliC
namespace Go.Proofs.YtoamlkljfmgomaaGreat
open Go.RowKit Go.Shelf
set_option linter.unusedVariables false
set_option linter.unusedSimpArgs false
set_option maxRecDepth 100000
attribute [local go_sem] Oper.semAt_some

/-- 'free' boxes what it is handed and hands the closure back. -/
theorem cfree_any (p : Option Addr) (n : Nat) (w : World) : Calls Tryz.prog 26 #[.pointer p, .int .u64 n] w fun e w' => e = .returned (.func (.func 60) #[] #[.pointer (some ⟨w.heap.size, 0, none⟩), .pointer (some ⟨w.heap.size + 1, 0, none⟩)]) ∧ (w.alloc (.cells #[.pointer p] 25)).alloc (.cells #[.int .u64 n] 23) = w' := by
  go_enter Tryz.func26, Tryz.ntmps26
  go_wp2
  go_ret
  exact ⟨by simp, rfl⟩
/-- After and sizeOf tell these blocks, one behind the other, from whatever world on. -/
structure FreeT (w : World) (p : Value) (least : Nat) (xs : List Nat) (z : Nat → Nat) : Prop where
  first : ∀ V, w.grownBy V none → Calls Tryz.prog 61 #[p, .int .u64 least, .int .u64 0] V fun e V' => e = .returned (.tuple #[.int .u64 (xs.getD 0 0 : Nat), .bool (decide (0 < xs.length))]) ∧ V.grownBy V' none
  size : ∀ V k, w.grownBy V none → k < xs.length → Calls Tryz.prog 36 #[p, .int .u64 (xs.getD k 0 : Nat)] V fun e V' => e = .returned (.int .u64 (z (xs.getD k 0) : Nat)) ∧ V.grownBy V' none
  next : ∀ V k, w.grownBy V none → k < xs.length → Calls Tryz.prog 61 #[p, .int .u64 (z (xs.getD k 0) : Nat), .int .u64 (xs.getD k 0 : Nat)] V fun e V' => e = .returned (.tuple #[.int .u64 (xs.getD (k + 1) 0 : Nat), .bool (decide (k + 1 < xs.length))]) ∧ V.grownBy V' none
  few : xs.length ≤ 10000
  mu : ∃ mu : Nat → Nat, ∀ k, k ≤ xs.length → mu (xs.getD k 0) = xs.length - k
def szAt (z : Nat → Nat) (xs : List Nat) (k : Nat) : Nat := if k < xs.length then z (xs.getD k 0) else 0
set_option maxHeartbeats 4000000 in
/-- The closure of 'free': each of them, and its size. -/
theorem cfree_stops {w w0 : World} {tb : Nat} {p : Option Addr} {least : Nat} {xs : List Nat} {z : Nat → Nat} (ht : FreeT w (.pointer p) least xs z)
    (hw0 : Below w.heap.size w w0) (hbx : Boxed w0 tb 25 (.pointer p)) (hcx : Boxed w0 (tb + 1) 23 (.int .u64 least)) :
    SeqStopsK Fence.wide 5 Tryz.prog 60 #[.pointer (some ⟨tb, 0, none⟩), .pointer (some ⟨tb + 1, 0, none⟩)] (fun k : Nat => #[.int .u64 (xs.getD k 0 : Nat), .int .u64 (szAt z xs k : Nat)]) (StK w.heap.size tb (.pointer p)) (fun ys => ys = List.range xs.length) (fun ys => ∃ k, k < xs.length ∧ ys = List.range (k + 1)) xs.length w0 := by
  intro yl J Jx W hW hJ hJx hY h0
  show CallsIn Fence.wide 5 Tryz.prog 60 #[.func (.yield yl) #[] #[], .pointer (some ⟨tb, 0, none⟩), .pointer (some ⟨tb + 1, 0, none⟩)] W _
  have hbW : Boxed W tb 25 (.pointer p) := (hW.block tb hbx.lt).trans hbx
  have hcW : Boxed W (tb + 1) 23 (.int .u64 least) := (hW.block (tb + 1) hcx.lt).trans hcx
  have hBW : Below w.heap.size w W := hw0.grown (below_grown hW) hw0.size (fun k e => by cases e)
  obtain ⟨n, hn⟩ : ∃ n, xs.length = n := ⟨_, rfl⟩
  have hn10 : n ≤ 10000 := hn ▸ ht.few
  obtain ⟨mu, hmu⟩ := ht.mu
  have HMU := Lib.hid hmu
  have hFirst := (callsIn_wide (n := 4)).2 (ht.first W (below_grown hBW))
  have hNext := fun (V : World) (k : Nat) (hg : w.grownBy V none) (hk : k < n) => (callsIn_wide (n := 4)).2 (ht.next V k hg (by omega))
  have hSize := fun (V : World) (k : Nat) (hg : w.grownBy V none) (hk : k < n) => (callsIn_wide (n := 4)).2 (ht.size V k hg (by omega))
  have hsz' : ∀ k, k < n → szAt z xs k = z (xs.getD k 0) := fun k hk => if_pos (by omega)
  have HSZ := Lib.hid hsz'
  rw [hn] at hY hFirst ⊢
  simp only [hn] at hNext HMU
  obtain ⟨g, hgz⟩ : ∃ g : Nat → Nat, (fun k => szAt z xs k) = g := ⟨_, rfl⟩
  have hgk : ∀ k, szAt z xs k = g k := fun k => by rw [← hgz]
  simp only [hgk] at HSZ hY
  have hNext' : ∀ (V : World) (k : Nat), w.grownBy V none → k < n → CallsIn Fence.wide 4 Tryz.prog 61 #[.pointer p, .int .u64 (g k : Nat), .int .u64 (xs.getD k 0 : Nat)] V fun e V' => e = .returned (.tuple #[.int .u64 (xs.getD (k + 1) 0 : Nat), .bool (decide (k + 1 < n))]) ∧ V.grownBy V' none := fun V k hg hk => by
    have := hNext V k hg hk
    rw [← HSZ.out k hk] at this
    exact this
  have hSize' : ∀ (V : World) (k : Nat), w.grownBy V none → k < n → CallsIn Fence.wide 4 Tryz.prog 36 #[.pointer p, .int .u64 (xs.getD k 0 : Nat)] V fun e V' => e = .returned (.int .u64 (g k : Nat)) ∧ V.grownBy V' none := fun V k hg hk => by
    have := hSize V k hg hk
    rw [← HSZ.out k hk] at this
    exact this
  have HJ := Lib.hid hJ
  have HY := Lib.hid hY
  have HN := Lib.hid hNext'
  have HS := Lib.hid hSize'
  have hsz := hBW.size
  have cb0 := hbW.cell
  have cc0 := hcW.cell
  clear hY hJ hJx hNext hSize hNext' hSize' hsz' HSZ hgz hgk ht hn hmu
  obtain ⟨f, hf⟩ : ∃ f : Nat → Nat, (fun k => xs.getD k 0) = f := ⟨_, rfl⟩
  have hfk : ∀ k, xs.getD k 0 = f k := fun k => by rw [← hf]
  simp only [hfk] at HN HS HY HMU hFirst ⊢
  clear hfk hf
  obtain ⟨x0, hx0⟩ : ∃ x, f 0 = x := ⟨_, rfl⟩
  obtain ⟨d0, hd0⟩ : ∃ d, decide (0 < n) = d := ⟨_, rfl⟩
  rw [hx0, hd0] at hFirst
  refine callsIn_of_wp Tryz.func60 rfl trivial ?_ rfl
  simp only [Tryz.ntmps60, List.size_toArray, List.length_cons, List.length_nil, Nat.reduceAdd, Nat.reduceSub, Array.replicate_succ, Array.replicate_zero, List.push_toArray, List.append_toArray, List.nil_append, List.cons_append]
  gi_wp2_with (first | (refine ⟨trivial, ?_⟩; gi_at_call 61; (with_reducible refine hFirst.mono ?_); rintro e w1 ⟨rfl, hg1⟩; have hb1 := hbW.kept hg1 (by simp); have hB1 : Below w.heap.size w w1 := hBW.grown hg1 hBW.size (fun k e => by cases e)))
  have hJ1 := HJ.out _ _ _ none h0 hg1 (fun r e => by cases e)
  have hs1 := hg1.size
  clear hFirst cb0 cc0 hbW hcW hBW h0
  gi_loopw [4, 5] (fun v b wr => ∃ k : Nat, k ≤ n ∧ v = .int .u64 (f k : Nat) ∧ b = .bool (decide (k < n)) ∧ J (List.range k) wr ∧ Below w.heap.size w wr ∧ W.heap.size ≤ wr.heap.size ∧ Boxed wr tb 25 (.pointer p)) (fun v _ _ => mu (intOf v).toNat)
  case atStart => exact ⟨0, Nat.zero_le _, by rw [hx0], by rw [hd0], hJ1, hB1, hs1, hb1⟩
  case round =>
    obtain ⟨k, hk, rfl, rfl, hJk, hB, hsW, hb⟩ := hrel
    clear hJ1 hB1 hb1
    by_cases h1 : k < n
    · have hN1 := fun (V : World) (hg : w.grownBy V none) => HN.out V k hg h1
      have hS1 := HS.out wr k (below_grown hB) h1
      have hm1 := HMU.out k hk
      have hm2 := HMU.out (k + 1) (by omega)
      have hd : decide (k < n) = true := decide_eq_true h1
      obtain ⟨x, hx⟩ : ∃ x, f k = x := ⟨_, rfl⟩
      obtain ⟨y, hy⟩ : ∃ y, f (k + 1) = y := ⟨_, rfl⟩
      obtain ⟨s, hs⟩ : ∃ s, g k = s := ⟨_, rfl⟩
      obtain ⟨d1, hd1⟩ : ∃ d, decide (k + 1 < n) = d := ⟨_, rfl⟩
      rw [hx, hs] at hN1 hS1
      rw [hy, hd1] at hN1
      rw [hx] at hm1
      rw [hy] at hm2
      rw [hx, hd]
      have cb := hb.cell
      have HJk := Lib.hid hJk
      have hms : mu y < mu x := by omega
      clear hJk hm1 hm2
      gi_wp2_with (refine ⟨trivial, ?_⟩; gi_at_call 36; (with_reducible refine hS1.mono ?_); rintro e w2 ⟨rfl, hg2⟩; have hJ2 := HJ.out _ _ _ none HJk.out hg2 (fun r e => by cases e); obtain ⟨fn, tmps, assign, body, hyy, hR⟩ := HY.out (List.range k) k w2 hJ2 (by simpa using h1); rw [← List.range_succ] at hR; rw [hx, hs] at hyy)
      refine hR.mono ?_
      rintro e W3 (⟨rfl, hJ3, hk3⟩ | ⟨rfl, hJx3⟩)
      · have hb3 : Boxed W3 tb 25 (.pointer p) := hk3.2 (hb.kept hg2 (by simp))
        have hB3 : Below w.heap.size w W3 := (hB.grown hg2 hB.size (fun k e => by cases e)).trans hk3.1
        have hs3 := Nat.le_trans hsW (Nat.le_trans hg2.size hk3.1.size)
        have cb3 := hb3.cell
        have hN3 := hN1 W3 (below_grown hB3)
        gi_wp2_with (refine ⟨trivial, ?_⟩; gi_at_call 61; (with_reducible refine hN3.mono ?_); rintro e w4 ⟨rfl, hg4⟩)
        have hJ4 := HJ.out _ _ _ none hJ3 hg4 (fun r e => by cases e)
        refine ⟨⟨k + 1, by omega, by rw [hy], by rw [hd1], hJ4, hB3.grown hg4 hB3.size (fun k e => by cases e), Nat.le_trans hs3 hg4.size, hb3.kept hg4 (by simp)⟩, by simpa [intOf] using hms⟩
      · gi_wp2
        refine bodyPost_ret (results_none rfl _ _ _) rfl ?_
        exact ⟨⟨_, rfl⟩, .inr ⟨_, ⟨k, h1, rfl⟩, hJx3⟩⟩
    · obtain rfl : k = n := by omega
      have hd : decide (k < k) = false := decide_eq_false (by omega)
      rw [hd]
      gi_wp2
      go_end0
      exact ⟨⟨_, rfl⟩, .inl ⟨_, rfl, hJk⟩⟩
end Go.Proofs.YtoamlkljfmgomaaGreat
