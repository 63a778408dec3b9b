/-
  Texts of one layer, one behind the other: memory, contracts of the functions, and what follows of them.
  Conditions: as each theorem says.
-/
import Derived.Test.YtkkkgikmeiocaaaLWoa
set_option linter.unusedVariables false
set_option linter.unusedSimpArgs false
namespace Go.Proofs.Ytkkkgikmeiocaaa
open Go.RowKit
theorem le_nil : leOf [] = 0 := rfl
theorem RPRel.first {w wa : World} {s : ByteArray} {g cp : Nat} (hs1 : 1 ≤ s.size) (hs : s.size ≤ 15) (hown : wa.ownsRow (w.heap.size + 1) 5 1 (.slice (some ⟨g, 0, none⟩) (1 + s.size) cp) (1 + s.size) (.int .u8 (s.size : Int) :: bytesOf s))
    (hb : Below (w.heap.size + 1) (w.alloc (.cells #[.int .u64 0, .int .u64 0] 63)) wa) :
    RPRel w wa s g (s.size + 1) (wa.alloc (.cells #[.int .u64 0, .int .u64 0] 63)) := by
  have hsz := hb.size
  rw [World.size_alloc] at hsz
  have hlen := nm_len s
  have hg := hown.lt g rfl
  have hb0 : Below w.heap.size w wa := ((Below.refl w.heap.size w).alloc (Nat.le_refl _) _).trans (hb.mono (by omega))
  have hcell : ∀ j, wa.cell? ⟨w.heap.size, j, none⟩ = (w.alloc (.cells #[.int .u64 0, .int .u64 0] 63)).cell? ⟨w.heap.size, j, none⟩ := fun j => hb.cell (p := ⟨w.heap.size, j, none⟩) (by simp)
  have hfroz : ∀ j, wa.frozen? ⟨w.heap.size, j, none⟩ = (w.alloc (.cells #[.int .u64 0, .int .u64 0] 63)).frozen? ⟨w.heap.size, j, none⟩ := fun j => hb.frozen (p := ⟨w.heap.size, j, none⟩) (by simp)
  have old : ∀ b j, b < wa.heap.size → (wa.alloc (.cells #[.int .u64 0, .int .u64 0] 63)).cell? ⟨b, j, none⟩ = wa.cell? ⟨b, j, none⟩ := fun b j h => World.cell?_alloc_old _ _ _ (Nat.ne_of_lt h)
  have oldf : ∀ b j, b < wa.heap.size → (wa.alloc (.cells #[.int .u64 0, .int .u64 0] 63)).frozen? ⟨b, j, none⟩ = wa.frozen? ⟨b, j, none⟩ := fun b j h => World.frozen?_alloc_old _ _ _ (Nat.ne_of_lt h)
  exact {
    lo := by rw [List.drop_of_length_le (by rw [List.length_take, hlen]; omega), le_nil]; go_cell
    hi := by rw [List.drop_of_length_le (by rw [hlen]; omega), le_nil]; go_cell
    flo := by simp
    fhi := by simp
    r0 := by rw [old _ _ (by omega), hcell]; go_cell
    r1 := by rw [old _ _ (by omega), hcell]; go_cell
    g0 := by rw [oldf _ _ (by omega), hfroz]; simp
    g1 := by rw [oldf _ _ (by omega), hfroz]; simp
    bs := fun j hj => by
      have h := hown.cells (g := g) rfl j _ (nm_cells s (by omega) j hj)
      have hadd : (⟨g, 0, none⟩ : Addr).add j = ⟨g, j, none⟩ := by unfold Addr.add; split <;> simp_all
      rw [hadd] at h
      rw [old _ _ hg.2]
      exact h
    below := hb0.alloc (by omega) _ }
theorem own_shape {wa : World} {base n : Nat} {v : Value} {xs : List Value} (h : wa.ownsRow base 5 1 v n xs) (hn : 1 ≤ n) : ∃ g cp, v = .slice (some ⟨g, 0, none⟩) n cp ∧ n ≤ cp ∧ cp ≤ maxLen := by
  rcases h.2 with ⟨_, h0⟩ | ⟨g, cp, cur, hv, _, _, hc, hm, _⟩
  · omega
  · exact ⟨g, cp, hv, hc, hm⟩
set_option maxHeartbeats 1000000 in
theorem rpack_any (s : ByteArray) (h1 : 1 ≤ s.size) (h2 : s.size ≤ 15) (w : World) :
    Calls Try.prog 29 #[.string s] w fun e w' => e = .returned (.tuple #[.agg #[.int .u64 (loS s : Nat), .int .u64 (hiS s : Nat)], .bool true]) ∧ Below w.heap.size w w' := by
  have c1 : ¬ ((s.size : Int) < 1) := by omega
  have c3 : ¬ s = ByteArray.empty := by intro h; rw [h] at h1; exact absurd h1 (by decide)
  have c2 : ¬ (15 < (s.size : Int)) := by omega
  obtain ⟨cap, hcap⟩ : ∃ cap : World → Nat, ∀ w, grownCap w s.size 0 5 = cap w := ⟨_, fun _ => rfl⟩
  have hcv := fun w => run_bytes_of_string (P := Try.prog) w 9 53 5 s Try.underlying9 Try.underlying53 Try.underlying5
  simp only [hcap] at hcv
  clear hcap
  obtain ⟨i0, hi, hz0, hz1, hz2⟩ := info_parts info_u8
  have HI := Lib.hid (And.intro hi (And.intro hz0 (And.intro hz1 hz2)))
  clear hi hz0 hz1 hz2
  go_enter Try.func29, Try.ntmps29
  go_wp2_with (at_builtin; go_must (refine wpList_append_own _ rfl _ _ 53 rfl (w.heap.size + 1) 5 i0 (.int .u8 0) 1 1 Try.underlying53 HI.out.1 HI.out.2.1 HI.out.2.2.1 HI.out.2.2.2 rfl (by decide) _ 1 [.int .u8 s.size] rfl ?own ⟨w.heap.size + 2, 0, none⟩ s.size _ (bytesOf s) rfl ?hl ?hnews ?hone ?h63 ?hbytes ?hbase ?_))
  case own => exact own_first w _ _ _
  case hl => exact bytes_len s
  case hnews => exact fun j u h => cells_second w s _ _ _ _ _ j u h
  case hone => exact one_cells s
  case h63 => unfold maxLen; omega
  case hbytes => omega
  intro v' wa hown hgrow _
  clear hcv HI
  have hb1 : Below (w.heap.size + 1) (w.alloc (.cells #[.int .u64 0, .int .u64 0] 63)) wa :=
    ((((Below.refl _ _).alloc (by simp) _).alloc (by simp) _).drew).grown hgrow (by simp) (fun k hk => by simp [Value.ownBlock] at hk; omega)
  obtain ⟨g, cp, hv, hcp, hcm⟩ := own_shape hown (by omega)
  rw [hv]
  rw [hv] at hown
  have R0 := RPRel.first h1 h2 hown hb1
  have hg := hown.lt g rfl
  clear hgrow hb1
  unfold maxLen at hcm
  go_wp2
  go_loopw [6] (fun i wr => ∃ r : Nat, r ≤ s.size + 1 ∧ i = .int .i64 ((r : Int) - 1) ∧ RPRel w wa s g r wr) (fun i _ => (intOf i + 1).toNat)
  case atStart => exact ⟨s.size + 1, Nat.le_refl _, congrArg (Value.int .i64) (by omega), R0⟩
  case round =>
    obtain ⟨r', hr', rfl, R⟩ := hrel
    clear R0 hown
    rcases r' with _ | r
    · rw [show (((0 : Nat) : Int) - 1) = -1 by rfl]
      have q0 := R.lo
      have q1 := R.hi
      rw [List.drop_zero, show leOf ((nm s).take 8) = loS s by unfold loS loOf; rw [nm_all]] at q0
      rw [Nat.max_eq_right (by omega), show leOf ((nm s).drop 8) = hiS s by unfold hiS hiOf; rw [nm_all]] at q1
      have q2 := R.r0
      have q3 := R.r1
      have q4 := R.g0
      have q5 := R.g1
      go_wp2
      exact bodyPost_ret (v := .tuple #[.agg #[.int .u64 (loS s : Nat), .int .u64 (hiS s : Nat)], .bool true]) (by simp [results, Try.results29, go_sem, q2, q3]) rfl ⟨rfl, (R.below.setCell (by simp) _).setCell (by simp) _⟩
    · rw [show (((r + 1 : Nat) : Int) - 1) = (r : Int) by omega]
      have hw : w.heap.size < wa.heap.size := by omega
      have hb := R.bs r (by omega)
      have hlt := ((nm s)[r]?.getD 0).toNat_lt
      obtain ⟨b, eb⟩ : ∃ b, ((nm s)[r]?.getD 0).toNat = b := ⟨_, rfl⟩
      rw [eb] at hb hlt
      rcases Nat.lt_or_ge r 8 with h8 | h8
      · have hv := le_at s r h8 (by omega)
        rw [eb] at hv
        have q0 := R.lo
        have q1 := R.flo
        have hlim := leOf_lt (((nm s).take 8).drop (r + 1))
        have hlen : (((nm s).take 8).drop (r + 1)).length ≤ 7 := by rw [List.length_drop, List.length_take]; omega
        have hpw : (256 : Nat) ^ (((nm s).take 8).drop (r + 1)).length ≤ 256 ^ 7 := Nat.pow_le_pow_right (by decide) hlen
        rw [show (256 : Nat) ^ 7 = 72057594037927936 by decide] at hpw
        obtain ⟨x, ex⟩ : ∃ x, leOf (((nm s).take 8).drop (r + 1)) = x := ⟨_, rfl⟩
        rw [ex] at hv q0 hlim
        have RN := R.low hw hg.2 h8 (by omega) (256 * x + b) hv.symm
        have hxl : x < 72057594037927936 := by omega
        have e1 : (r : Int) / 8 = 0 := by omega
        have en : ((256 * x + b : Nat) : Int) = 256 * (x : Int) + (b : Int) := by omega
        rw [en] at RN
        clear hv hlim hlen hpw ex eb en
        go_wp2
        go_region
        all_goals go_wp2
        all_goals exact ⟨⟨r, by omega, rfl, RN⟩, by simp [intOf]⟩
      · have hv := le_at_high s r (by omega)
        rw [eb] at hv
        have q0 := R.hi
        have q1 := R.fhi
        rw [Nat.max_eq_left (by omega)] at q0
        have hlim := leOf_lt ((nm s).drop (r + 1))
        have hlen : ((nm s).drop (r + 1)).length ≤ 7 := by rw [List.length_drop, nm_len]; omega
        have hpw : (256 : Nat) ^ ((nm s).drop (r + 1)).length ≤ 256 ^ 7 := Nat.pow_le_pow_right (by decide) hlen
        rw [show (256 : Nat) ^ 7 = 72057594037927936 by decide] at hpw
        obtain ⟨x, ex⟩ : ∃ x, leOf ((nm s).drop (r + 1)) = x := ⟨_, rfl⟩
        rw [ex] at hv q0 hlim
        have RN := R.high hw hg.2 h8 (by omega) (256 * x + b) hv.symm
        have hxl : x < 72057594037927936 := by omega
        have e1 : (r : Int) / 8 = 1 := by omega
        have en : ((256 * x + b : Nat) : Int) = 256 * (x : Int) + (b : Int) := by omega
        rw [en] at RN
        clear hv hlim hlen hpw ex eb en
        go_wp2
        go_region
        all_goals go_wp2
        all_goals exact ⟨⟨r, by omega, rfl, RN⟩, by simp [intOf]⟩
theorem rpack_not (s : ByteArray) (h : s.size = 0 ∨ 15 < s.size) (hm : s.size ≤ 9223372036854775807) (w : World) :
    Calls Try.prog 29 #[.string s] w fun e w' => e = .returned (.tuple #[.agg #[.int .u64 0, .int .u64 0], .bool false]) ∧ Below w.heap.size w w' := by
  have hb : Below w.heap.size w (w.alloc (.cells #[.int .u64 0, .int .u64 0] 63)) := (Below.refl _ _).alloc (Nat.le_refl _) _
  rcases h with h | h
  · have c1 : (s.size : Int) < 1 := by omega
    go_enter Try.func29, Try.ntmps29
    go_wp2
    exact bodyPost_ret (v := .tuple #[.agg #[.int .u64 0, .int .u64 0], .bool false]) (by simp [results, Try.results29, go_sem]) rfl ⟨rfl, hb⟩
  · have c1 : ¬ (s.size : Int) < 1 := by omega
    have c2 : 15 < (s.size : Int) := by omega
    go_enter Try.func29, Try.ntmps29
    go_wp2
    exact bodyPost_ret (v := .tuple #[.agg #[.int .u64 0, .int .u64 0], .bool false]) (by simp [results, Try.results29, go_sem]) rfl ⟨rfl, hb⟩
end Go.Proofs.Ytkkkgikmeiocaaa
namespace Go.Proofs.Ytkkkgikmeiocaaa
open Go.RowKit
def cellsTo (x0 x1 k : Nat) : List Value := (List.range k).map fun j => .int .u8 (byteAt x0 x1 j : Int)
theorem cellsTo_next (x0 x1 k : Nat) : cellsTo x0 x1 (k + 1) = cellsTo x0 x1 k ++ [.int .u8 (byteAt x0 x1 k : Int)] := by
  unfold cellsTo; rw [List.range_succ, List.map_append]; rfl
theorem cellsTo_at (x0 x1 k j : Nat) (h : j < k) : (cellsTo x0 x1 k)[j]? = some (.int .u8 (byteAt x0 x1 j : Int)) := by
  simp [cellsTo, h]
structure RNRel (w : World) (x0 x1 k : Nat) (v : Value) (wr : World) : Prop where
  c0 : wr.cell? ⟨w.heap.size, 0, none⟩ = some (.int .u64 (x0 / 256 ^ (min k 8) : Nat))
  c1 : wr.cell? ⟨w.heap.size, 1, none⟩ = some (.int .u64 (x1 / 256 ^ (k - 8) : Nat))
  f0 : wr.frozen? ⟨w.heap.size, 0, none⟩ = false
  f1 : wr.frozen? ⟨w.heap.size, 1, none⟩ = false
  own : wr.ownsRow (w.heap.size + 1) 5 1 v k (cellsTo x0 x1 k)
  size : w.heap.size + 1 ≤ wr.heap.size
  below : Below w.heap.size w wr
theorem RNRel.first (w : World) (x0 x1 : Nat) : RNRel w x0 x1 0 (.slice none 0 0) (w.alloc (.cells #[.int .u64 x0, .int .u64 x1] 63)) where
  c0 := by simp only [Nat.zero_min, Nat.pow_zero, Nat.div_one]; go_cell
  c1 := by simp only [Nat.zero_sub, Nat.pow_zero, Nat.div_one]; go_cell
  f0 := by simp
  f1 := by simp
  own := World.ownsRow_nil _ _ _ _
  size := by simp
  below := (Below.refl _ _).alloc (Nat.le_refl _) _
theorem div_next (x k : Nat) : x / 256 ^ (k + 1) = x / 256 ^ k / 256 := by rw [Nat.pow_succ, Nat.div_div_eq_div_mul]
theorem RNRel.next {w wr wa : World} {x0 x1 k : Nat} {v v' : Value} (R : RNRel w x0 x1 k v wr) (hown : wa.ownsRow (w.heap.size + 1) 5 1 v' (k + 1) (cellsTo x0 x1 (k + 1)))
    {O : Obj} (hg : (wr.alloc O).grownBy wa v.ownBlock) :
    (k < 8 → RNRel w x0 x1 (k + 1) v' (wa.setCell ⟨w.heap.size, 0, none⟩ (.int .u64 (x0 / 256 ^ k / 256 : Nat)))) ∧ (8 ≤ k → RNRel w x0 x1 (k + 1) v' (wa.setCell ⟨w.heap.size, 1, none⟩ (.int .u64 (x1 / 256 ^ (k - 8) / 256 : Nat)))) ∧
    wa.cell? ⟨w.heap.size, 0, none⟩ = some (.int .u64 (x0 / 256 ^ (min k 8) : Nat)) ∧ wa.cell? ⟨w.heap.size, 1, none⟩ = some (.int .u64 (x1 / 256 ^ (k - 8) : Nat)) ∧ wa.frozen? ⟨w.heap.size, 0, none⟩ = false ∧ wa.frozen? ⟨w.heap.size, 1, none⟩ = false := by
  have hne : some w.heap.size ≠ v.ownBlock := by
    intro h
    have := (R.own.lt _ h.symm).1
    omega
  have hlt : w.heap.size < wr.heap.size := R.size
  have hblk : wa.heap[w.heap.size]? = wr.heap[w.heap.size]? := (hg.block _ (by rw [World.size_alloc]; omega) hne).trans (Below.heap_alloc wr O _ hlt)
  have d0 : wa.cell? ⟨w.heap.size, 0, none⟩ = some (.int .u64 (x0 / 256 ^ (min k 8) : Nat)) := (World.cell?_of_block (w := wr) (a := ⟨w.heap.size, 0, none⟩) hblk).trans R.c0
  have d1 : wa.cell? ⟨w.heap.size, 1, none⟩ = some (.int .u64 (x1 / 256 ^ (k - 8) : Nat)) := (World.cell?_of_block (w := wr) (a := ⟨w.heap.size, 1, none⟩) hblk).trans R.c1
  have e0 : wa.frozen? ⟨w.heap.size, 0, none⟩ = false := (World.frozen?_of_block (w := wr) (a := ⟨w.heap.size, 0, none⟩) hblk).trans R.f0
  have e1 : wa.frozen? ⟨w.heap.size, 1, none⟩ = false := (World.frozen?_of_block (w := wr) (a := ⟨w.heap.size, 1, none⟩) hblk).trans R.f1
  have hsz := hg.size
  rw [World.size_alloc] at hsz
  have hb : Below w.heap.size w wa := (R.below.alloc (by omega) O).grown hg (by rw [World.size_alloc]; omega) (fun k hk => by have := (R.own.lt _ hk).1; omega)
  refine ⟨fun h => ?_, fun h => ?_, d0, d1, e0, e1⟩
  · rw [Nat.min_eq_left (by omega)] at d0
    exact {
      c0 := by rw [Nat.min_eq_left (by omega), div_next]; exact World.cell?_setCell_same _ _ _ d0
      c1 := by rw [World.cell?_setCell_other _ _ _ _ (by simp), d1, show k + 1 - 8 = k - 8 by omega]
      f0 := by rw [World.frozen?_setCell]; exact e0
      f1 := by rw [World.frozen?_setCell]; exact e1
      own := ownsRow_setCell_below hown (by simp) _
      size := by simp [World.setCell]; omega
      below := hb.setCell (by simp) _ }
  · exact {
      c0 := by rw [World.cell?_setCell_other _ _ _ _ (by simp), d0, Nat.min_eq_right h, Nat.min_eq_right (by omega)]
      c1 := by rw [show k + 1 - 8 = (k - 8) + 1 by omega, div_next]; exact World.cell?_setCell_same _ _ _ d1
      f0 := by rw [World.frozen?_setCell]; exact e0
      f1 := by rw [World.frozen?_setCell]; exact e1
      own := ownsRow_setCell_below hown (by simp) _
      size := by simp [World.setCell]; omega
      below := hb.setCell (by simp) _ }
end Go.Proofs.Ytkkkgikmeiocaaa
namespace Go.Proofs.Ytkkkgikmeiocaaa
open Go.RowKit
set_option maxHeartbeats 1000000 in
theorem rname_core (x0 x1 n : Nat) (bb : Bool) (h0 : x0 < 18446744073709551616) (h1 : x1 < 18446744073709551616) (en : byteAt x0 x1 0 = n)
    (hc : ((n < 1 ∨ 15 < n) ∧ bb = false) ∨ ((1 ≤ n ∧ n ≤ 15) ∧ (∀ j, n < j → j < 16 → byteAt x0 x1 j = 0) ∧ bb = true) ∨ ((1 ≤ n ∧ n ≤ 15) ∧ (∃ j, n < j ∧ j < 16 ∧ byteAt x0 x1 j ≠ 0) ∧ bb = false)) (w : World) :
    Calls Try.prog 34 #[.agg #[.int .u64 x0, .int .u64 x1]] w fun e w' => e = .returned (.tuple #[.string (if bb then strOf x0 x1 n else ByteArray.empty), .bool bb]) ∧ Below w.heap.size w w' := by
  obtain ⟨i0, hi, hz0, hz1, hz2⟩ := info_parts info_u8
  have HI := Lib.hid (And.intro hi (And.intro hz0 (And.intro hz1 hz2)))
  clear hi hz0 hz1 hz2
  have HC := Lib.hid hc
  have EN := Lib.hid en
  clear hc en
  have R0 := RNRel.first w x0 x1
  go_enter Try.func34, Try.ntmps34
  go_wp2
  go_loopw [4, 5] (fun v i wr => ∃ k : Nat, k ≤ 16 ∧ i = .int .i64 k ∧ RNRel w x0 x1 k v wr) (fun _ i _ => 16 - (intOf i).toNat)
  case atStart => exact ⟨0, by decide, rfl, R0⟩
  case round =>
    obtain ⟨k, hk, rfl, R⟩ := hrel
    clear R0
    by_cases hlt : k < 16
    · rcases Nat.lt_or_ge k 8 with h8 | h8
      · have e1 : (k : Int) / 8 = 0 := by omega
        have q0 := R.c0
        have q1 := R.f0
        obtain ⟨x, ex⟩ : ∃ x, x0 / 256 ^ (min k 8) = x := ⟨_, rfl⟩
        have hx : x < 18446744073709551616 := by rw [← ex]; exact Nat.lt_of_le_of_lt (Nat.div_le_self _ _) h0
        have eb : (x : Int) % 256 = (byteAt x0 x1 k : Int) := by
          unfold byteAt
          rw [if_pos h8, ← ex, Nat.min_eq_left (by omega)]
          omega
        rw [ex] at q0
        have EX := Lib.hid ex
        have EB := Lib.hid eb
        clear ex eb
        go_wp2_with (at_builtin; go_must (refine wpList_append_own _ rfl _ _ 53 rfl (w.heap.size + 1) 5 i0 (.int .u8 0) 1 1 Try.underlying53 HI.out.1 HI.out.2.1 HI.out.2.2.1 HI.out.2.2.2 rfl (by decide) _ k (cellsTo x0 x1 k) rfl (R.own.alloc _) ⟨wr.heap.size, 0, none⟩ 1 1 [.int .u8 ((x : Int) % 256)] rfl ?hl ?hnews ?hone ?h63 ?hbytes ?hbase ?_))
        case hl => rfl
        case hnews => exact cell_one_new _ _ _
        case hone => intro u hu; rw [List.mem_singleton] at hu; subst hu; rfl
        case h63 => unfold maxLen; omega
        case hbytes => omega
        case hbase => have := R.size; rw [World.size_alloc]; omega
        intro v' wa hown hgrow _
        rw [EB.out, ← cellsTo_next] at hown
        have RN := R.next hown hgrow
        have s1 := RN.2.2.1
        have s2 := RN.2.2.2.2.1
        have RN' := RN.1 h8
        clear RN hown hgrow
        rw [show x0 / 256 ^ k = x by rw [← EX.out, Nat.min_eq_left (by omega)]] at RN'
        rw [EX.out] at s1
        have ed : ((x / 256 : Nat) : Int) = (x : Int) / 256 := by omega
        rw [ed] at RN'
        clear ed q0 q1
        go_wp2
        go_roundw
        case rel => exact ⟨k + 1, by omega, by go_num, RN'⟩
        case measure => simp [intOf]; omega
      · have e1 : (k : Int) / 8 = 1 := by omega
        have q0 := R.c1
        have q1 := R.f1
        obtain ⟨x, ex⟩ : ∃ x, x1 / 256 ^ (k - 8) = x := ⟨_, rfl⟩
        have hx : x < 18446744073709551616 := by rw [← ex]; exact Nat.lt_of_le_of_lt (Nat.div_le_self _ _) h1
        have eb : (x : Int) % 256 = (byteAt x0 x1 k : Int) := by
          unfold byteAt
          rw [if_neg (by omega), ← ex]
          omega
        rw [ex] at q0
        have EX := Lib.hid ex
        have EB := Lib.hid eb
        clear ex eb
        go_wp2_with (at_builtin; go_must (refine wpList_append_own _ rfl _ _ 53 rfl (w.heap.size + 1) 5 i0 (.int .u8 0) 1 1 Try.underlying53 HI.out.1 HI.out.2.1 HI.out.2.2.1 HI.out.2.2.2 rfl (by decide) _ k (cellsTo x0 x1 k) rfl (R.own.alloc _) ⟨wr.heap.size, 0, none⟩ 1 1 [.int .u8 ((x : Int) % 256)] rfl ?hl ?hnews ?hone ?h63 ?hbytes ?hbase ?_))
        case hl => rfl
        case hnews => exact cell_one_new _ _ _
        case hone => intro u hu; rw [List.mem_singleton] at hu; subst hu; rfl
        case h63 => unfold maxLen; omega
        case hbytes => omega
        case hbase => have := R.size; rw [World.size_alloc]; omega
        intro v' wa hown hgrow _
        rw [EB.out, ← cellsTo_next] at hown
        have RN := R.next hown hgrow
        have s1 := RN.2.2.2.1
        have s2 := RN.2.2.2.2.2
        have RN' := RN.2.1 h8
        clear RN hown hgrow
        rw [EX.out] at RN'
        rw [EX.out] at s1
        have ed : ((x / 256 : Nat) : Int) = (x : Int) / 256 := by omega
        rw [ed] at RN'
        clear ed q0 q1
        go_wp2
        go_roundw
        case rel => exact ⟨k + 1, by omega, by go_num, RN'⟩
        case measure => simp [intOf]; omega
    · obtain rfl : k = 16 := by omega
      clear HI
      have hown := R.own
      have hbel := R.below
      obtain ⟨g, cp, hv, hcp, hcm⟩ := own_shape hown (by decide)
      rw [hv] at hown
      rw [hv]
      have hcell : ∀ j, j < 16 → wr.cell? ⟨g, j, none⟩ = some (.int .u8 (byteAt x0 x1 j : Int)) := fun j hj => by
        have h := hown.cells (g := g) rfl j _ (cellsTo_at x0 x1 16 j hj)
        have hadd : (⟨g, 0, none⟩ : Addr).add j = ⟨g, j, none⟩ := by unfold Addr.add; split <;> simp_all
        rw [hadd] at h
        exact h
      have HCELL := Lib.hid hcell
      have q0 := hcell 0 (by decide)
      rw [EN.out] at q0
      have hn256 := byteAt_lt x0 x1 0
      rw [EN.out] at hn256
      unfold maxLen at hcm
      clear R hown hcell hv
      rcases HC.out with ⟨hn, rfl⟩ | ⟨hn, hall, rfl⟩ | ⟨hn, hex, rfl⟩
      · clear HC
        rcases hn with hn | hn
        all_goals
          go_wp2
          go_ret2
          exact ⟨rfl, hbel⟩
      · have HA := Lib.hid hall
        clear hall HC
        have hn1 : ¬ ((n : Int) < 1) := by omega
        have hn2 : ¬ (15 < (n : Int)) := by omega
        go_wp2
        go_loop [7] (fun i => ∃ k : Nat, n + 1 ≤ k ∧ k ≤ 16 ∧ i = .int .i64 k) (fun i => 16 - (intOf i).toNat)
        case atStart => exact ⟨n + 1, Nat.le_refl _, by omega, congrArg (Value.int .i64) (by omega)⟩
        case round =>
          obtain ⟨k, hk1, hk2, rfl⟩ := hrel
          by_cases hlt : k < 16
          · have q1 := HCELL.out k hlt
            rw [HA.out k (by omega) hlt] at q1
            go_wp2
            go_round
            case rel => exact ⟨k + 1, by omega, by omega, by go_num⟩
            case measure => simp [intOf]; omega
          · obtain rfl : k = 16 := by omega
            have hconv := fun c => run_convert_bytes_arg (P := Try.prog) wr 53 5 Try.underlying53 Try.underlying5 g 1 n c (numsOf x0 x1 n) (nums_len x0 x1 n) (fun i hi => by
              rw [nums_at x0 x1 n i hi, Nat.add_comm 1 i]; exact HCELL.out (i + 1) (by omega)) 9 Try.underlying9
            go_wp2
            go_ret2
            exact ⟨rfl, hbel⟩
      · obtain ⟨j, hj1, hj2, hj3⟩ := hex
        clear HC
        have hn1 : ¬ ((n : Int) < 1) := by omega
        have hn2 : ¬ (15 < (n : Int)) := by omega
        have HJ := Lib.hid hj3
        clear hj3
        go_wp2
        go_loop [7] (fun i => ∃ k : Nat, n + 1 ≤ k ∧ k ≤ j ∧ i = .int .i64 k) (fun i => 16 - (intOf i).toNat)
        case atStart => exact ⟨n + 1, Nat.le_refl _, by omega, congrArg (Value.int .i64) (by omega)⟩
        case round =>
          obtain ⟨k, hk1, hk2, rfl⟩ := hrel
          have q1 := HCELL.out k (by omega)
          by_cases hz : byteAt x0 x1 k = 0
          · rw [hz] at q1
            have hkj : k ≠ j := by intro h; exact HJ.out (by rw [← h]; exact hz)
            go_wp2
            go_round
            case rel => exact ⟨k + 1, by omega, by omega, by go_num⟩
            case measure => simp [intOf]; omega
          · have hz' : ((byteAt x0 x1 k : Int) != 0) = true := by rw [bne_iff_ne]; omega
            clear hz
            go_wp2
            go_ret2
            exact ⟨rfl, hbel⟩
theorem same_num : ∀ (m x y : Nat), x < 256 ^ m → y < 256 ^ m → (∀ i, i < m → x / 256 ^ i % 256 = y / 256 ^ i % 256) → x = y
  | 0, x, y, hx, hy, _ => by simp at hx hy; omega
  | m + 1, x, y, hx, hy, h => by
    rw [Nat.pow_succ] at hx hy
    have h0 := h 0 (by omega)
    rw [Nat.pow_zero, Nat.div_one, Nat.div_one] at h0
    have := same_num m (x / 256) (y / 256) (by omega) (by omega) (fun i hi => by
      have := h (i + 1) (by omega)
      rw [Nat.pow_succ, Nat.mul_comm (256 ^ i) 256, ← Nat.div_div_eq_div_mul, ← Nat.div_div_eq_div_mul] at this
      exact this)
    omega
theorem rname_yes (s : ByteArray) (h1 : 1 ≤ s.size) (h2 : s.size ≤ 15) (w : World) :
    Calls Try.prog 34 #[.agg #[.int .u64 (loS s : Nat), .int .u64 (hiS s : Nat)]] w fun e w' => e = .returned (.tuple #[.string s, .bool true]) ∧ Below w.heap.size w w' := by
  have h := rname_core (loS s) (hiS s) s.size true (loS_lt s) (hiS_lt s h2) (byte_first s (by omega)) (.inr (.inl ⟨⟨h1, h2⟩, fun j hj _ => by
    rw [byte_of, List.getElem?_eq_none (by rw [nm_len]; omega)]; rfl, rfl⟩)) w
  rw [if_pos rfl, str_of] at h
  exact h
theorem rname_no (x0 x1 : Nat) (h0 : x0 < 18446744073709551616) (h1 : x1 < 18446744073709551616) (hno : ∀ s : ByteArray, 1 ≤ s.size → s.size ≤ 15 → ¬ (loS s = x0 ∧ hiS s = x1)) (w : World) :
    Calls Try.prog 34 #[.agg #[.int .u64 x0, .int .u64 x1]] w fun e w' => e = .returned (.tuple #[.string ByteArray.empty, .bool false]) ∧ Below w.heap.size w w' := by
  obtain ⟨n, en⟩ : ∃ n, byteAt x0 x1 0 = n := ⟨_, rfl⟩
  by_cases hn : n < 1 ∨ 15 < n
  · exact rname_core x0 x1 n false h0 h1 en (.inl ⟨hn, rfl⟩) w
  · by_cases hz : ∃ j, n < j ∧ j < 16 ∧ byteAt x0 x1 j ≠ 0
    · exact rname_core x0 x1 n false h0 h1 en (.inr (.inr ⟨by omega, hz, rfl⟩)) w
    · exfalso
      have hz' : ∀ j, n < j → j < 16 → byteAt x0 x1 j = 0 := fun j hj hj' => Classical.byContradiction fun h => hz ⟨j, hj, hj', h⟩
      have hsz := str_size x0 x1 n
      obtain ⟨s, es⟩ : ∃ s, strOf x0 x1 n = s := ⟨_, rfl⟩
      rw [es] at hsz
      have hb : ∀ i, i < 16 → byteAt (loS s) (hiS s) i = byteAt x0 x1 i := by
        intro i hi
        rcases Nat.lt_or_ge n i with h | h
        · rw [hz' i h hi, byte_of, List.getElem?_eq_none (by rw [nm_len]; omega)]; rfl
        · rcases i with _ | i
          · rw [byte_first s (by omega), en, hsz]
          · have hlt : i < n := by omega
            have hc : s.data.toList = (numsOf x0 x1 n).map fun n => UInt8.ofNat n.toNat := by rw [← es]; rfl
            have hbl := byteAt_lt x0 x1 (i + 1)
            rw [byte_of, nm, List.getElem?_cons_succ, hc]
            simp [numsOf, hlt]
            omega
      refine hno s (by omega) (by omega) ⟨?_, ?_⟩
      · refine same_num 8 _ _ (loS_lt s) h0 fun i hi => ?_
        have := hb i (by omega)
        unfold byteAt at this
        rw [if_pos hi, if_pos hi] at this
        exact this
      · refine same_num 8 _ _ (hiS_lt s (by omega)) h1 fun i hi => ?_
        have := hb (8 + i) (by omega)
        unfold byteAt at this
        rw [if_neg (by omega), if_neg (by omega), show 8 + i - 8 = i by omega] at this
        exact this
end Go.Proofs.Ytkkkgikmeiocaaa
