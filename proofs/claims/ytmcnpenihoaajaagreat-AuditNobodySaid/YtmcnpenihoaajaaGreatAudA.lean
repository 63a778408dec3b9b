/-
  Package audit: the closures that choose blocks, the offsets of the blocks that are chosen, and whether a client may be in a State.
  Conditions: the blocks lie in memory; there are 1000000 at most.
-/
import Derived.Test.YtmcnpenihoaajaaGreatLPhb
import Derived.Test.YtmcnpenihoaajaaGreatLTra
import Derived.Test.YtmcnpenihoaajaaGreatLTxa
namespace Go.Proofs.YtmcnpenihoaajaaGreat
open Go.RowKit
set_option linter.unusedVariables false
set_option linter.unusedSimpArgs false
set_option maxRecDepth 100000

/-- The offsets of the blocks that are chosen. -/
def begL (p : Blk → Bool) (l : List Blk) : List Nat := (l.filter p).map Blk.off
theorem begL_take {p : Blk → Bool} (bs : List Blk) {k : Nat} (h : k < bs.length) : begL p (bs.take (k + 1)) = if p (bs.getD k default) = true then begL p (bs.take k) ++ [gO bs k] else begL p (bs.take k) := by
  have e : bs.take (k + 1) = bs.take k ++ [bs.getD k default] := by
    rw [List.take_succ_eq_append_getElem h, List.getD_eq_getElem?_getD, List.getElem?_eq_getElem h]
    rfl
  unfold gO begL
  rw [e, List.filter_append, List.map_append]
  obtain ⟨x, hx⟩ : ∃ x, bs.getD k default = x := ⟨_, rfl⟩
  rw [hx]
  cases hu : p x with
  | true => simp [hu]
  | false => simp [hu]
theorem begL_len {p : Blk → Bool} (bs : List Blk) : (begL p bs).length ≤ bs.length := by
  unfold begL
  rw [List.length_map]
  exact List.length_filter_le _ _
/-- A function's value chooses blocks by p. -/
def Chooses (g : FuncId) (cs : Array Value) (p : Blk → Bool) (w : World) : Prop := ∀ W, w.grownBy W none → ∀ b : Blk, Calls Tryz.prog g (#[.agg #[.int .u64 (b.off : Nat), .int .u64 (b.s : Nat), .bool b.u, .int .i64 b.o, .int .u64 (b.n : Nat)]] ++ cs) W fun e w' => e = .returned (.bool (p b)) ∧ W.grownBy w' none
theorem Chooses.later {g : FuncId} {cs : Array Value} {p : Blk → Bool} {w w' : World} (h : Chooses g cs p w) (hg : w.grownBy w' none) : Chooses g cs p w' := fun W hW b => h W (grown_trans hg hW) b
def isFreeB (b : Blk) : Bool := !b.u
def usedByB (o : Int) (b : Blk) : Bool := b.u && (b.o == o)
theorem isfree_any (w : World) : Chooses 50 #[] isFreeB w := fun W hW b => by
  have hg0 : W.grownBy (W.alloc (.cells #[.int .u64 (b.off : Nat), .int .u64 (b.s : Nat), .bool b.u, .int .i64 b.o, .int .u64 (b.n : Nat)] 128)) none := World.grownBy_alloc _ _ _
  unfold isFreeB
  simp only [Array.append_empty]
  go_enter Tryz.func50, Tryz.ntmps50
  go_wp2
  go_ret
  exact ⟨rfl, hg0⟩
theorem usedby1_any {o : Int} {cb : Nat} {w : World} (hb : cb < w.heap.size) (hc : w.cell? ⟨cb, 0, none⟩ = some (.int .i64 o)) : Chooses 125 #[.pointer (some ⟨cb, 0, none⟩)] (usedByB o) w := fun W hW b => by
  have hc0 : W.cell? ⟨cb, 0, none⟩ = some (.int .i64 o) := (World.cell?_of_block (w := w) (a := ⟨cb, 0, none⟩) (hW.block cb hb (by simp))).trans hc
  have hg0 : W.grownBy (W.alloc (.cells #[.int .u64 (b.off : Nat), .int .u64 (b.s : Nat), .bool b.u, .int .i64 b.o, .int .u64 (b.n : Nat)] 128)) none := World.grownBy_alloc _ _ _
  have hc1 : (W.alloc (.cells #[.int .u64 (b.off : Nat), .int .u64 (b.s : Nat), .bool b.u, .int .i64 b.o, .int .u64 (b.n : Nat)] 128)).cell? ⟨cb, 0, none⟩ = some (.int .i64 o) := Lib.cell?_alloc_some _ hc0
  unfold usedByB
  simp only [List.append_toArray, List.cons_append, List.nil_append]
  clear hc0 hW hc
  cases hu : b.u with
  | false =>
    rw [hu] at hg0 hc1
    go_enter Tryz.func125, Tryz.ntmps125
    go_wp2
    go_ret
    exact ⟨rfl, hg0⟩
  | true =>
    rw [hu] at hg0 hc1
    go_enter Tryz.func125, Tryz.ntmps125
    go_wp2
    go_ret
    exact ⟨by simp, hg0⟩
theorem usedby_any (o : Int) (w : World) : Calls Tryz.prog 85 #[.int .i64 o] w fun e w' => e = .returned (.func (.func 125) #[] #[.pointer (some ⟨w.heap.size, 0, none⟩)]) ∧ Chooses 125 #[.pointer (some ⟨w.heap.size, 0, none⟩)] (usedByB o) w' ∧ w.grownBy w' none := by
  have hg0 := World.grownBy_alloc w (.cells #[.int .i64 o] 3) none
  have hc := usedby1_any (o := o) (cb := w.heap.size) (w := w.alloc (.cells #[.int .i64 o] 3)) (by simp) (cell_of_one (heap_alloc_new' _ _))
  go_enter Tryz.func85, Tryz.ntmps85
  go_wp2
  go_ret
  exact ⟨rfl, hc, hg0⟩
set_option maxHeartbeats 4000000 in
theorem begins_any {w : World} {la : Option Addr} {m c : Nat} {bs : List Blk} {g : FuncId} {cs : Array Value} {p : Blk → Bool} (hb : BlksAt w la bs) (hm : bs.length = m) (hn : m ≤ 1000000) (ha : Chooses g cs p w) (eg : ∀ args w, (callFunc g args).run Tryz.prog w = .ok (.enter g args) w) :
    Calls Tryz.prog 49 #[.slice la m c, .func (.func g) #[] cs] w fun e w' => ∃ v, e = .returned v ∧ OwnW w' w.heap.size v (begL p bs) ∧ w.grownBy w' none := by
  have hbl := fun (V : World) (hg : w.grownBy V none) => hb.later hg
  have HN := Lib.hid hm
  have HBL := Lib.hid hbl
  have HA := Lib.hid ha
  clear hb hm hbl ha
  go_enter Tryz.func49, Tryz.ntmps49
  go_wp2
  go_loopw [10, 5] (fun i v wr => ∃ k : Nat, k ≤ m ∧ i = .int .i64 k ∧ OwnW wr w.heap.size v (begL p (bs.take k)) ∧ w.grownBy wr none) (fun i _ _ => m - (intOf i).toNat)
  case atStart => exact ⟨0, Nat.zero_le _, rfl, World.ownsRow_nil _ _ _ _, grown_refl _ _⟩
  case round =>
    obtain ⟨k, hk, rfl, hown, hgr⟩ := hrel
    rcases Nat.lt_or_ge k m with h1 | h1
    · have h1' : (k : Int) < (m : Int) := by omega
      obtain ⟨bb, off, rfl, hbb, hcs⟩ := (HBL.out wr hgr).cells (by rw [HN.out]; omega)
      obtain ⟨c0, c1, c2, c3, c4⟩ := hcs k (by rw [HN.out]; exact h1)
      have hnext := begL_take (p := p) bs (k := k) (by rw [HN.out]; exact h1)
      have hflen := begL_len (p := p) (bs.take k)
      rw [List.length_take, HN.out] at hflen
      have hg1 := World.grownBy_alloc wr (.cells #[.int .u64 (gO bs k : Nat), .int .u64 (gS bs k : Nat), .bool (gU bs k), .int .i64 (gW bs k), .int .u64 (gN bs k : Nat)] 128) none
      have hbx := heap_alloc_new' wr (.cells #[.int .u64 (gO bs k : Nat), .int .u64 (gS bs k : Nat), .bool (gU bs k), .int .i64 (gW bs k), .int .u64 (gN bs k : Nat)] 128)
      have hcall : Calls Tryz.prog g (#[.agg #[.int .u64 (gO bs k : Nat), .int .u64 (gS bs k : Nat), .bool (gU bs k), .int .i64 (gW bs k), .int .u64 (gN bs k : Nat)]] ++ cs) _ _ := HA.out _ (grown_trans hgr hg1) (bs.getD k default)
      obtain ⟨r, hr⟩ : ∃ r, p (bs.getD k default) = r := ⟨_, rfl⟩
      rw [hr] at hcall hnext
      obtain ⟨x, hx⟩ : ∃ x, gO bs k = x := ⟨_, rfl⟩
      obtain ⟨fl, hfl⟩ : ∃ fl, begL p (bs.take k) = fl := ⟨_, rfl⟩
      rw [hx] at c0 hnext hcall hg1 hbx
      rw [hfl] at hown hnext hflen
      have HOWN := Lib.hid hown
      have hsw := hgr.size
      obtain ⟨W1, hW1⟩ : ∃ W1, wr.alloc (.cells #[.int .u64 (x : Nat), .int .u64 (gS bs k : Nat), .bool (gU bs k), .int .i64 (gW bs k), .int .u64 (gN bs k : Nat)] 128) = W1 := ⟨_, rfl⟩
      rw [hW1] at hcall hg1 hbx
      obtain ⟨d0, d1, d2, d3, d4⟩ := five_cells hbx
      have HBX := Lib.hid hbx
      have HG1 := Lib.hid hg1
      cases r with
      | false =>
        rw [if_neg (by simp)] at hnext
        have HNX := Lib.hid hnext
        clear hnext hcs hx hfl hown hr hbx hg1
        go_wp2_with (go_at_fn g; refine hcall.mono ?_; rintro e w2 ⟨rfl, hg2⟩)
        go_roundw
        case rel => exact ⟨k + 1, by omega, by go_num, by rw [HNX.out]; exact HOWN.out.later (grown_trans HG1.out hg2), grown_trans hgr (grown_trans HG1.out hg2)⟩
        case measure => simp [intOf]; omega
      | true =>
        rw [if_pos rfl] at hnext
        have HNX := Lib.hid hnext
        clear hnext hcs hx hfl hown hr hbx hg1
        go_wp2_with (first | (go_at_fn g; refine hcall.mono ?_; rintro e w2 ⟨rfl, hg2⟩; obtain ⟨k0, k1, k2, k3, k4⟩ := five_cells ((hg2.block _ (lt_of_block HBX.out) (by simp)).trans HBX.out); have hg12 := grown_trans HG1.out hg2; have hown2 := HOWN.out.later hg12; have hs2 := hg12.size) | (at_builtin; go_must (refine wpList_append_num rfl _ _ rfl w.heap.size _ fl rfl hown2 x rfl (by omega) (by omega) ?_); intro v8 w8 hown8 hg8 hloc8))
        go_roundw
        case rel => exact ⟨k + 1, by omega, by go_num, by rw [HNX.out]; exact hown8, grown_step (grown_trans hgr hg12) hg8 (fun i hi => .inl (World.ownsRow.lt hown2 i hi).1)⟩
        case measure => simp [intOf]; omega
    · obtain rfl : k = m := by omega
      rw [← HN.out, List.take_length] at hown
      obtain ⟨fa, fn, fc, hfv⟩ := wv_form hown
      subst hfv
      have HOWN := Lib.hid hown
      clear hown
      go_wp2
      go_ret
      exact ⟨_, rfl, HOWN.out, hgr⟩
/-! ### Whether a client may be in a State -/
def mayS (s n : Nat) : Bool := if s = 0 then n == 0 else decide (s ≤ 2)
theorem maystate_any (s n : Nat) (w : World) : Calls Tryz.prog 87 #[.int .u64 s, .int .i64 n] w fun e w' => e = .returned (.bool (mayS s n)) ∧ w = w' := by
  unfold mayS
  by_cases h0 : s = 0
  · subst h0
    rw [if_pos rfl]
    have e : (n == 0) = ((n : Int) == 0) := by rw [Bool.eq_iff_iff, beq_iff_eq, beq_iff_eq]; omega
    rw [e]
    go_enter Tryz.func87, Tryz.ntmps87
    go_wp2
    go_ret
    exact ⟨rfl, rfl⟩
  · rw [if_neg h0]
    have h0' : ((s : Int) == 0) = false := by rw [beq_eq_false_iff_ne]; omega
    by_cases h1 : s = 1
    · subst h1
      go_enter Tryz.func87, Tryz.ntmps87
      go_wp2
      go_ret
      exact ⟨rfl, rfl⟩
    · by_cases h2 : s = 2
      · subst h2
        go_enter Tryz.func87, Tryz.ntmps87
        go_wp2
        go_ret
        exact ⟨rfl, rfl⟩
      · have h1' : ((s : Int) == 1) = false := by rw [beq_eq_false_iff_ne]; omega
        have h2' : ((s : Int) == 2) = false := by rw [beq_eq_false_iff_ne]; omega
        have e : decide (s ≤ 2) = false := by rw [decide_eq_false_iff_not]; omega
        rw [e]
        go_enter Tryz.func87, Tryz.ntmps87
        go_wp2
        go_ret
        exact ⟨rfl, rfl⟩
end Go.Proofs.YtmcnpenihoaajaaGreat
