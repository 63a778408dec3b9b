/-
  Texts of one layer, one behind the other: memory, contracts of the functions, and what follows of them.
  Conditions: as each theorem says.
-/
import Derived.Test.YtmcnpenihoaajaaGreatLWoa
set_option linter.unusedVariables false
set_option linter.unusedSimpArgs false
namespace Go.Proofs.YtmcnpenihoaajaaGreat
open Go.RowKit
def cellsTo (x0 x1 k : Nat) : List Value := (List.range k).map fun j => .int .u8 (byteAt x0 x1 j : Int)
theorem cellsTo_next (x0 x1 k : Nat) : cellsTo x0 x1 (k + 1) = cellsTo x0 x1 k ++ [.int .u8 (byteAt x0 x1 k : Int)] := by
  unfold cellsTo; rw [List.range_succ, List.map_append]; rfl
theorem cellsTo_at (x0 x1 k j : Nat) (h : j < k) : (cellsTo x0 x1 k)[j]? = some (.int .u8 (byteAt x0 x1 j : Int)) := by
  simp [cellsTo, h]
structure RNRel (w : World) (x0 x1 k : Nat) (v : Value) (wr : World) : Prop where
  c0 : wr.cell? ⟨w.heap.size, 0, none⟩ = some (.int .u64 (x0 / 256 ^ (min k 8) : Nat))
  c1 : wr.cell? ⟨w.heap.size, 1, none⟩ = some (.int .u64 (x1 / 256 ^ (k - 8) : Nat))
  f0 : wr.frozen? ⟨w.heap.size, 0, none⟩ = false
  f1 : wr.frozen? ⟨w.heap.size, 1, none⟩ = false
  own : wr.ownsRow (w.heap.size + 1) 5 1 v k (cellsTo x0 x1 k)
  size : w.heap.size + 1 ≤ wr.heap.size
  below : Below w.heap.size w wr
theorem RNRel.first (w : World) (x0 x1 : Nat) : RNRel w x0 x1 0 (.slice none 0 0) (w.alloc (.cells #[.int .u64 x0, .int .u64 x1] 184)) where
  c0 := by simp only [Nat.zero_min, Nat.pow_zero, Nat.div_one]; go_cell
  c1 := by simp only [Nat.zero_sub, Nat.pow_zero, Nat.div_one]; go_cell
  f0 := by simp
  f1 := by simp
  own := World.ownsRow_nil _ _ _ _
  size := by simp
  below := (Below.refl _ _).alloc (Nat.le_refl _) _
theorem div_next (x k : Nat) : x / 256 ^ (k + 1) = x / 256 ^ k / 256 := by rw [Nat.pow_succ, Nat.div_div_eq_div_mul]
theorem RNRel.next {w wr wa : World} {x0 x1 k : Nat} {v v' : Value} (R : RNRel w x0 x1 k v wr) (hown : wa.ownsRow (w.heap.size + 1) 5 1 v' (k + 1) (cellsTo x0 x1 (k + 1)))
    {O : Obj} (hg : (wr.alloc O).grownBy wa v.ownBlock) :
    (k < 8 → RNRel w x0 x1 (k + 1) v' (wa.setCell ⟨w.heap.size, 0, none⟩ (.int .u64 (x0 / 256 ^ k / 256 : Nat)))) ∧ (8 ≤ k → RNRel w x0 x1 (k + 1) v' (wa.setCell ⟨w.heap.size, 1, none⟩ (.int .u64 (x1 / 256 ^ (k - 8) / 256 : Nat)))) ∧
    wa.cell? ⟨w.heap.size, 0, none⟩ = some (.int .u64 (x0 / 256 ^ (min k 8) : Nat)) ∧ wa.cell? ⟨w.heap.size, 1, none⟩ = some (.int .u64 (x1 / 256 ^ (k - 8) : Nat)) ∧ wa.frozen? ⟨w.heap.size, 0, none⟩ = false ∧ wa.frozen? ⟨w.heap.size, 1, none⟩ = false := by
  have hne : some w.heap.size ≠ v.ownBlock := by
    intro h
    have := (R.own.lt _ h.symm).1
    omega
  have hlt : w.heap.size < wr.heap.size := R.size
  have hblk : wa.heap[w.heap.size]? = wr.heap[w.heap.size]? := (hg.block _ (by rw [World.size_alloc]; omega) hne).trans (Below.heap_alloc wr O _ hlt)
  have d0 : wa.cell? ⟨w.heap.size, 0, none⟩ = some (.int .u64 (x0 / 256 ^ (min k 8) : Nat)) := (World.cell?_of_block (w := wr) (a := ⟨w.heap.size, 0, none⟩) hblk).trans R.c0
  have d1 : wa.cell? ⟨w.heap.size, 1, none⟩ = some (.int .u64 (x1 / 256 ^ (k - 8) : Nat)) := (World.cell?_of_block (w := wr) (a := ⟨w.heap.size, 1, none⟩) hblk).trans R.c1
  have e0 : wa.frozen? ⟨w.heap.size, 0, none⟩ = false := (World.frozen?_of_block (w := wr) (a := ⟨w.heap.size, 0, none⟩) hblk).trans R.f0
  have e1 : wa.frozen? ⟨w.heap.size, 1, none⟩ = false := (World.frozen?_of_block (w := wr) (a := ⟨w.heap.size, 1, none⟩) hblk).trans R.f1
  have hsz := hg.size
  rw [World.size_alloc] at hsz
  have hb : Below w.heap.size w wa := (R.below.alloc (by omega) O).grown hg (by rw [World.size_alloc]; omega) (fun k hk => by have := (R.own.lt _ hk).1; omega)
  refine ⟨fun h => ?_, fun h => ?_, d0, d1, e0, e1⟩
  · rw [Nat.min_eq_left (by omega)] at d0
    exact {
      c0 := by rw [Nat.min_eq_left (by omega), div_next]; exact World.cell?_setCell_same _ _ _ d0
      c1 := by rw [World.cell?_setCell_other _ _ _ _ (by simp), d1, show k + 1 - 8 = k - 8 by omega]
      f0 := by rw [World.frozen?_setCell]; exact e0
      f1 := by rw [World.frozen?_setCell]; exact e1
      own := ownsRow_setCell_below hown (by simp) _
      size := by simp [World.setCell]; omega
      below := hb.setCell (by simp) _ }
  · exact {
      c0 := by rw [World.cell?_setCell_other _ _ _ _ (by simp), d0, Nat.min_eq_right h, Nat.min_eq_right (by omega)]
      c1 := by rw [show k + 1 - 8 = (k - 8) + 1 by omega, div_next]; exact World.cell?_setCell_same _ _ _ d1
      f0 := by rw [World.frozen?_setCell]; exact e0
      f1 := by rw [World.frozen?_setCell]; exact e1
      own := ownsRow_setCell_below hown (by simp) _
      size := by simp [World.setCell]; omega
      below := hb.setCell (by simp) _ }
end Go.Proofs.YtmcnpenihoaajaaGreat
namespace Go.Proofs.YtmcnpenihoaajaaGreat
open Go.RowKit
set_option maxHeartbeats 1000000 in
theorem rname_core (x0 x1 n : Nat) (bb : Bool) (h0 : x0 < 18446744073709551616) (h1 : x1 < 18446744073709551616) (en : byteAt x0 x1 0 = n)
    (hc : ((n < 1 ∨ 15 < n) ∧ bb = false) ∨ ((1 ≤ n ∧ n ≤ 15) ∧ (∀ j, n < j → j < 16 → byteAt x0 x1 j = 0) ∧ bb = true) ∨ ((1 ≤ n ∧ n ≤ 15) ∧ (∃ j, n < j ∧ j < 16 ∧ byteAt x0 x1 j ≠ 0) ∧ bb = false)) (w : World) :
    Calls Tryz.prog 104 #[.agg #[.int .u64 x0, .int .u64 x1]] w fun e w' => e = .returned (.tuple #[.string (if bb then strOf x0 x1 n else ByteArray.empty), .bool bb]) ∧ Below w.heap.size w w' := by
  obtain ⟨i0, hi, hz0, hz1, hz2⟩ := info_parts info_u8
  have HI := Lib.hid (And.intro hi (And.intro hz0 (And.intro hz1 hz2)))
  clear hi hz0 hz1 hz2
  have HC := Lib.hid hc
  have EN := Lib.hid en
  clear hc en
  have R0 := RNRel.first w x0 x1
  go_enter Tryz.func104, Tryz.ntmps104
  go_wp2
  go_loopw [4, 5] (fun v i wr => ∃ k : Nat, k ≤ 16 ∧ i = .int .i64 k ∧ RNRel w x0 x1 k v wr) (fun _ i _ => 16 - (intOf i).toNat)
  case atStart => exact ⟨0, by decide, rfl, R0⟩
  case round =>
    obtain ⟨k, hk, rfl, R⟩ := hrel
    clear R0
    by_cases hlt : k < 16
    · rcases Nat.lt_or_ge k 8 with h8 | h8
      · have e1 : (k : Int) / 8 = 0 := by omega
        have q0 := R.c0
        have q1 := R.f0
        obtain ⟨x, ex⟩ : ∃ x, x0 / 256 ^ (min k 8) = x := ⟨_, rfl⟩
        have hx : x < 18446744073709551616 := by rw [← ex]; exact Nat.lt_of_le_of_lt (Nat.div_le_self _ _) h0
        have eb : (x : Int) % 256 = (byteAt x0 x1 k : Int) := by
          unfold byteAt
          rw [if_pos h8, ← ex, Nat.min_eq_left (by omega)]
          omega
        rw [ex] at q0
        have EX := Lib.hid ex
        have EB := Lib.hid eb
        clear ex eb
        go_wp2_with (at_builtin; go_must (refine wpList_append_own _ rfl _ _ 49 rfl (w.heap.size + 1) 5 i0 (.int .u8 0) 1 1 Tryz.underlying49 HI.out.1 HI.out.2.1 HI.out.2.2.1 HI.out.2.2.2 rfl (by decide) _ k (cellsTo x0 x1 k) rfl (R.own.alloc _) ⟨wr.heap.size, 0, none⟩ 1 1 [.int .u8 ((x : Int) % 256)] rfl ?hl ?hnews ?hone ?h63 ?hbytes ?hbase ?_))
        case hl => rfl
        case hnews => exact cell_one_new _ _ _
        case hone => intro u hu; rw [List.mem_singleton] at hu; subst hu; rfl
        case h63 => unfold maxLen; omega
        case hbytes => omega
        case hbase => have := R.size; rw [World.size_alloc]; omega
        intro v' wa hown hgrow _
        rw [EB.out, ← cellsTo_next] at hown
        have RN := R.next hown hgrow
        have s1 := RN.2.2.1
        have s2 := RN.2.2.2.2.1
        have RN' := RN.1 h8
        clear RN hown hgrow
        rw [show x0 / 256 ^ k = x by rw [← EX.out, Nat.min_eq_left (by omega)]] at RN'
        rw [EX.out] at s1
        have ed : ((x / 256 : Nat) : Int) = (x : Int) / 256 := by omega
        rw [ed] at RN'
        clear ed q0 q1
        go_wp2
        go_roundw
        case rel => exact ⟨k + 1, by omega, by go_num, RN'⟩
        case measure => simp [intOf]; omega
      · have e1 : (k : Int) / 8 = 1 := by omega
        have q0 := R.c1
        have q1 := R.f1
        obtain ⟨x, ex⟩ : ∃ x, x1 / 256 ^ (k - 8) = x := ⟨_, rfl⟩
        have hx : x < 18446744073709551616 := by rw [← ex]; exact Nat.lt_of_le_of_lt (Nat.div_le_self _ _) h1
        have eb : (x : Int) % 256 = (byteAt x0 x1 k : Int) := by
          unfold byteAt
          rw [if_neg (by omega), ← ex]
          omega
        rw [ex] at q0
        have EX := Lib.hid ex
        have EB := Lib.hid eb
        clear ex eb
        go_wp2_with (at_builtin; go_must (refine wpList_append_own _ rfl _ _ 49 rfl (w.heap.size + 1) 5 i0 (.int .u8 0) 1 1 Tryz.underlying49 HI.out.1 HI.out.2.1 HI.out.2.2.1 HI.out.2.2.2 rfl (by decide) _ k (cellsTo x0 x1 k) rfl (R.own.alloc _) ⟨wr.heap.size, 0, none⟩ 1 1 [.int .u8 ((x : Int) % 256)] rfl ?hl ?hnews ?hone ?h63 ?hbytes ?hbase ?_))
        case hl => rfl
        case hnews => exact cell_one_new _ _ _
        case hone => intro u hu; rw [List.mem_singleton] at hu; subst hu; rfl
        case h63 => unfold maxLen; omega
        case hbytes => omega
        case hbase => have := R.size; rw [World.size_alloc]; omega
        intro v' wa hown hgrow _
        rw [EB.out, ← cellsTo_next] at hown
        have RN := R.next hown hgrow
        have s1 := RN.2.2.2.1
        have s2 := RN.2.2.2.2.2
        have RN' := RN.2.1 h8
        clear RN hown hgrow
        rw [EX.out] at RN'
        rw [EX.out] at s1
        have ed : ((x / 256 : Nat) : Int) = (x : Int) / 256 := by omega
        rw [ed] at RN'
        clear ed q0 q1
        go_wp2
        go_roundw
        case rel => exact ⟨k + 1, by omega, by go_num, RN'⟩
        case measure => simp [intOf]; omega
    · obtain rfl : k = 16 := by omega
      clear HI
      have hown := R.own
      have hbel := R.below
      obtain ⟨g, cp, hv, hcp, hcm⟩ := own_shape hown (by decide)
      rw [hv] at hown
      rw [hv]
      have hcell : ∀ j, j < 16 → wr.cell? ⟨g, j, none⟩ = some (.int .u8 (byteAt x0 x1 j : Int)) := fun j hj => by
        have h := hown.cells (g := g) rfl j _ (cellsTo_at x0 x1 16 j hj)
        have hadd : (⟨g, 0, none⟩ : Addr).add j = ⟨g, j, none⟩ := by unfold Addr.add; split <;> simp_all
        rw [hadd] at h
        exact h
      have HCELL := Lib.hid hcell
      have q0 := hcell 0 (by decide)
      rw [EN.out] at q0
      have hn256 := byteAt_lt x0 x1 0
      rw [EN.out] at hn256
      unfold maxLen at hcm
      clear R hown hcell hv
      rcases HC.out with ⟨hn, rfl⟩ | ⟨hn, hall, rfl⟩ | ⟨hn, hex, rfl⟩
      · clear HC
        rcases hn with hn | hn
        all_goals
          go_wp2
          go_ret2
          exact ⟨rfl, hbel⟩
      · have HA := Lib.hid hall
        clear hall HC
        have hn1 : ¬ ((n : Int) < 1) := by omega
        have hn2 : ¬ (15 < (n : Int)) := by omega
        go_wp2
        go_loop [7] (fun i => ∃ k : Nat, n + 1 ≤ k ∧ k ≤ 16 ∧ i = .int .i64 k) (fun i => 16 - (intOf i).toNat)
        case atStart => exact ⟨n + 1, Nat.le_refl _, by omega, congrArg (Value.int .i64) (by omega)⟩
        case round =>
          obtain ⟨k, hk1, hk2, rfl⟩ := hrel
          by_cases hlt : k < 16
          · have q1 := HCELL.out k hlt
            rw [HA.out k (by omega) hlt] at q1
            go_wp2
            go_round
            case rel => exact ⟨k + 1, by omega, by omega, by go_num⟩
            case measure => simp [intOf]; omega
          · obtain rfl : k = 16 := by omega
            have hconv := fun c => run_convert_bytes_arg (P := Tryz.prog) wr 49 5 Tryz.underlying49 Tryz.underlying5 g 1 n c (numsOf x0 x1 n) (nums_len x0 x1 n) (fun i hi => by
              rw [nums_at x0 x1 n i hi, Nat.add_comm 1 i]; exact HCELL.out (i + 1) (by omega)) 9 Tryz.underlying9
            go_wp2
            go_ret2
            exact ⟨rfl, hbel⟩
      · obtain ⟨j, hj1, hj2, hj3⟩ := hex
        clear HC
        have hn1 : ¬ ((n : Int) < 1) := by omega
        have hn2 : ¬ (15 < (n : Int)) := by omega
        have HJ := Lib.hid hj3
        clear hj3
        go_wp2
        go_loop [7] (fun i => ∃ k : Nat, n + 1 ≤ k ∧ k ≤ j ∧ i = .int .i64 k) (fun i => 16 - (intOf i).toNat)
        case atStart => exact ⟨n + 1, Nat.le_refl _, by omega, congrArg (Value.int .i64) (by omega)⟩
        case round =>
          obtain ⟨k, hk1, hk2, rfl⟩ := hrel
          have q1 := HCELL.out k (by omega)
          by_cases hz : byteAt x0 x1 k = 0
          · rw [hz] at q1
            have hkj : k ≠ j := by intro h; exact HJ.out (by rw [← h]; exact hz)
            go_wp2
            go_round
            case rel => exact ⟨k + 1, by omega, by omega, by go_num⟩
            case measure => simp [intOf]; omega
          · have hz' : ((byteAt x0 x1 k : Int) != 0) = true := by rw [bne_iff_ne]; omega
            clear hz
            go_wp2
            go_ret2
            exact ⟨rfl, hbel⟩
theorem same_num : ∀ (m x y : Nat), x < 256 ^ m → y < 256 ^ m → (∀ i, i < m → x / 256 ^ i % 256 = y / 256 ^ i % 256) → x = y
  | 0, x, y, hx, hy, _ => by simp at hx hy; omega
  | m + 1, x, y, hx, hy, h => by
    rw [Nat.pow_succ] at hx hy
    have h0 := h 0 (by omega)
    rw [Nat.pow_zero, Nat.div_one, Nat.div_one] at h0
    have := same_num m (x / 256) (y / 256) (by omega) (by omega) (fun i hi => by
      have := h (i + 1) (by omega)
      rw [Nat.pow_succ, Nat.mul_comm (256 ^ i) 256, ← Nat.div_div_eq_div_mul, ← Nat.div_div_eq_div_mul] at this
      exact this)
    omega
theorem rname_yes (s : ByteArray) (h1 : 1 ≤ s.size) (h2 : s.size ≤ 15) (w : World) :
    Calls Tryz.prog 104 #[.agg #[.int .u64 (loS s : Nat), .int .u64 (hiS s : Nat)]] w fun e w' => e = .returned (.tuple #[.string s, .bool true]) ∧ Below w.heap.size w w' := by
  have h := rname_core (loS s) (hiS s) s.size true (loS_lt s) (hiS_lt s h2) (byte_first s (by omega)) (.inr (.inl ⟨⟨h1, h2⟩, fun j hj _ => by
    rw [byte_of, List.getElem?_eq_none (by rw [nm_len]; omega)]; rfl, rfl⟩)) w
  rw [if_pos rfl, str_of] at h
  exact h
theorem rname_no (x0 x1 : Nat) (h0 : x0 < 18446744073709551616) (h1 : x1 < 18446744073709551616) (hno : ∀ s : ByteArray, 1 ≤ s.size → s.size ≤ 15 → ¬ (loS s = x0 ∧ hiS s = x1)) (w : World) :
    Calls Tryz.prog 104 #[.agg #[.int .u64 x0, .int .u64 x1]] w fun e w' => e = .returned (.tuple #[.string ByteArray.empty, .bool false]) ∧ Below w.heap.size w w' := by
  obtain ⟨n, en⟩ : ∃ n, byteAt x0 x1 0 = n := ⟨_, rfl⟩
  by_cases hn : n < 1 ∨ 15 < n
  · exact rname_core x0 x1 n false h0 h1 en (.inl ⟨hn, rfl⟩) w
  · by_cases hz : ∃ j, n < j ∧ j < 16 ∧ byteAt x0 x1 j ≠ 0
    · exact rname_core x0 x1 n false h0 h1 en (.inr (.inr ⟨by omega, hz, rfl⟩)) w
    · exfalso
      have hz' : ∀ j, n < j → j < 16 → byteAt x0 x1 j = 0 := fun j hj hj' => Classical.byContradiction fun h => hz ⟨j, hj, hj', h⟩
      have hsz := str_size x0 x1 n
      obtain ⟨s, es⟩ : ∃ s, strOf x0 x1 n = s := ⟨_, rfl⟩
      rw [es] at hsz
      have hb : ∀ i, i < 16 → byteAt (loS s) (hiS s) i = byteAt x0 x1 i := by
        intro i hi
        rcases Nat.lt_or_ge n i with h | h
        · rw [hz' i h hi, byte_of, List.getElem?_eq_none (by rw [nm_len]; omega)]; rfl
        · rcases i with _ | i
          · rw [byte_first s (by omega), en, hsz]
          · have hlt : i < n := by omega
            have hc : s.data.toList = (numsOf x0 x1 n).map fun n => UInt8.ofNat n.toNat := by rw [← es]; rfl
            have hbl := byteAt_lt x0 x1 (i + 1)
            rw [byte_of, nm, List.getElem?_cons_succ, hc]
            simp [numsOf, hlt]
            omega
      refine hno s (by omega) (by omega) ⟨?_, ?_⟩
      · refine same_num 8 _ _ (loS_lt s) h0 fun i hi => ?_
        have := hb i (by omega)
        unfold byteAt at this
        rw [if_pos hi, if_pos hi] at this
        exact this
      · refine same_num 8 _ _ (hiS_lt s (by omega)) h1 fun i hi => ?_
        have := hb (8 + i) (by omega)
        unfold byteAt at this
        rw [if_neg (by omega), if_neg (by omega), show 8 + i - 8 = i by omega] at this
        exact this
end Go.Proofs.YtmcnpenihoaajaaGreat
