/-
  The contract of the plain answer Pack, whole: it tells the two words that word.Pack tells.
  Conditions: the string is one that may be.
-/
import Derived.Test.YtebkpcbajheciaaWordI
namespace Go.Proofs.Ytebkpcbajheciaa
open Go.RowKit
set_option linter.unusedVariables false
set_option linter.unusedSimpArgs false
theorem le_nil : leOf [] = 0 := rfl
theorem RPRel.first {w wa : World} {s : ByteArray} {g cp : Nat} (hs1 : 1 ≤ s.size) (hs : s.size ≤ 15) (hown : wa.ownsRow (w.heap.size + 1) 5 1 (.slice (some ⟨g, 0, none⟩) (1 + s.size) cp) (1 + s.size) (.int .u8 (s.size : Int) :: bytesOf s))
    (hb : Below (w.heap.size + 1) (w.alloc (.cells #[.int .u64 0, .int .u64 0] 31)) wa) :
    RPRel w wa s g (s.size + 1) (wa.alloc (.cells #[.int .u64 0, .int .u64 0] 31)) := by
  have hsz := hb.size
  rw [World.size_alloc] at hsz
  have hlen := nm_len s
  have hg := hown.lt g rfl
  have hb0 : Below w.heap.size w wa := ((Below.refl w.heap.size w).alloc (Nat.le_refl _) _).trans (hb.mono (by omega))
  have hcell : ∀ j, wa.cell? ⟨w.heap.size, j, none⟩ = (w.alloc (.cells #[.int .u64 0, .int .u64 0] 31)).cell? ⟨w.heap.size, j, none⟩ := fun j => hb.cell (p := ⟨w.heap.size, j, none⟩) (by simp)
  have hfroz : ∀ j, wa.frozen? ⟨w.heap.size, j, none⟩ = (w.alloc (.cells #[.int .u64 0, .int .u64 0] 31)).frozen? ⟨w.heap.size, j, none⟩ := fun j => hb.frozen (p := ⟨w.heap.size, j, none⟩) (by simp)
  have old : ∀ b j, b < wa.heap.size → (wa.alloc (.cells #[.int .u64 0, .int .u64 0] 31)).cell? ⟨b, j, none⟩ = wa.cell? ⟨b, j, none⟩ := fun b j h => World.cell?_alloc_old _ _ _ (Nat.ne_of_lt h)
  have oldf : ∀ b j, b < wa.heap.size → (wa.alloc (.cells #[.int .u64 0, .int .u64 0] 31)).frozen? ⟨b, j, none⟩ = wa.frozen? ⟨b, j, none⟩ := fun b j h => World.frozen?_alloc_old _ _ _ (Nat.ne_of_lt h)
  exact {
    lo := by rw [List.drop_of_length_le (by rw [List.length_take, hlen]; omega), le_nil]; go_cell
    hi := by rw [List.drop_of_length_le (by rw [hlen]; omega), le_nil]; go_cell
    flo := by simp
    fhi := by simp
    r0 := by rw [old _ _ (by omega), hcell]; go_cell
    r1 := by rw [old _ _ (by omega), hcell]; go_cell
    g0 := by rw [oldf _ _ (by omega), hfroz]; simp
    g1 := by rw [oldf _ _ (by omega), hfroz]; simp
    bs := fun j hj => by
      have h := hown.cells (g := g) rfl j _ (nm_cells s (by omega) j hj)
      have hadd : (⟨g, 0, none⟩ : Addr).add j = ⟨g, j, none⟩ := by unfold Addr.add; split <;> simp_all
      rw [hadd] at h
      rw [old _ _ hg.2]
      exact h
    below := hb0.alloc (by omega) _ }
theorem own_shape {wa : World} {base n : Nat} {v : Value} {xs : List Value} (h : wa.ownsRow base 5 1 v n xs) (hn : 1 ≤ n) : ∃ g cp, v = .slice (some ⟨g, 0, none⟩) n cp ∧ n ≤ cp ∧ cp ≤ maxLen := by
  rcases h.2 with ⟨_, h0⟩ | ⟨g, cp, cur, hv, _, _, hc, hm, _⟩
  · omega
  · exact ⟨g, cp, hv, hc, hm⟩
set_option maxHeartbeats 1000000 in
theorem rpack_any (s : ByteArray) (h1 : 1 ≤ s.size) (h2 : s.size ≤ 15) (w : World) :
    Calls Try.prog 25 #[.string s] w fun e w' => e = .returned (.tuple #[.agg #[.int .u64 (loS s : Nat), .int .u64 (hiS s : Nat)], .bool true]) ∧ Below w.heap.size w w' := by
  have c1 : ¬ ((s.size : Int) < 1) := by omega
  have c3 : ¬ s = ByteArray.empty := by intro h; rw [h] at h1; exact absurd h1 (by decide)
  have c2 : ¬ (15 < (s.size : Int)) := by omega
  obtain ⟨cap, hcap⟩ : ∃ cap : World → Nat, ∀ w, grownCap w s.size 0 5 = cap w := ⟨_, fun _ => rfl⟩
  have hcv := fun w => run_bytes_of_string (P := Try.prog) w 9 45 5 s Try.underlying9 Try.underlying45 Try.underlying5
  simp only [hcap] at hcv
  clear hcap
  obtain ⟨i0, hi, hz0, hz1, hz2⟩ := info_parts info_u8
  have HI := Lib.hid (And.intro hi (And.intro hz0 (And.intro hz1 hz2)))
  clear hi hz0 hz1 hz2
  go_enter Try.func25, Try.ntmps25
  go_wp2_with (at_builtin; go_must (refine wpList_append_own _ rfl _ _ 45 rfl (w.heap.size + 1) 5 i0 (.int .u8 0) 1 1 Try.underlying45 HI.out.1 HI.out.2.1 HI.out.2.2.1 HI.out.2.2.2 rfl (by decide) _ 1 [.int .u8 s.size] rfl ?own ⟨w.heap.size + 2, 0, none⟩ s.size _ (bytesOf s) rfl ?hl ?hnews ?hone ?h63 ?hbytes ?hbase ?_))
  case own => exact own_first w _ _ _
  case hl => exact bytes_len s
  case hnews => exact fun j u h => cells_second w s _ _ _ _ _ j u h
  case hone => exact one_cells s
  case h63 => unfold maxLen; omega
  case hbytes => omega
  intro v' wa hown hgrow _
  clear hcv HI
  have hb1 : Below (w.heap.size + 1) (w.alloc (.cells #[.int .u64 0, .int .u64 0] 31)) wa :=
    ((((Below.refl _ _).alloc (by simp) _).alloc (by simp) _).drew).grown hgrow (by simp) (fun k hk => by simp [Value.ownBlock] at hk; omega)
  obtain ⟨g, cp, hv, hcp, hcm⟩ := own_shape hown (by omega)
  rw [hv]
  rw [hv] at hown
  have R0 := RPRel.first h1 h2 hown hb1
  have hg := hown.lt g rfl
  clear hgrow hb1
  unfold maxLen at hcm
  go_wp2
  go_loopw [6] (fun i wr => ∃ r : Nat, r ≤ s.size + 1 ∧ i = .int .i64 ((r : Int) - 1) ∧ RPRel w wa s g r wr) (fun i _ => (intOf i + 1).toNat)
  case atStart => exact ⟨s.size + 1, Nat.le_refl _, congrArg (Value.int .i64) (by omega), R0⟩
  case round =>
    obtain ⟨r', hr', rfl, R⟩ := hrel
    clear R0 hown
    rcases r' with _ | r
    · rw [show (((0 : Nat) : Int) - 1) = -1 by rfl]
      have q0 := R.lo
      have q1 := R.hi
      rw [List.drop_zero, show leOf ((nm s).take 8) = loS s by unfold loS loOf; rw [nm_all]] at q0
      rw [Nat.max_eq_right (by omega), show leOf ((nm s).drop 8) = hiS s by unfold hiS hiOf; rw [nm_all]] at q1
      have q2 := R.r0
      have q3 := R.r1
      have q4 := R.g0
      have q5 := R.g1
      go_wp2
      exact bodyPost_ret (v := .tuple #[.agg #[.int .u64 (loS s : Nat), .int .u64 (hiS s : Nat)], .bool true]) (by simp [results, Try.results25, go_sem, q2, q3]) rfl ⟨rfl, (R.below.setCell (by simp) _).setCell (by simp) _⟩
    · rw [show (((r + 1 : Nat) : Int) - 1) = (r : Int) by omega]
      have hw : w.heap.size < wa.heap.size := by omega
      have hb := R.bs r (by omega)
      have hlt := ((nm s)[r]?.getD 0).toNat_lt
      obtain ⟨b, eb⟩ : ∃ b, ((nm s)[r]?.getD 0).toNat = b := ⟨_, rfl⟩
      rw [eb] at hb hlt
      rcases Nat.lt_or_ge r 8 with h8 | h8
      · have hv := le_at s r h8 (by omega)
        rw [eb] at hv
        have q0 := R.lo
        have q1 := R.flo
        have hlim := leOf_lt (((nm s).take 8).drop (r + 1))
        have hlen : (((nm s).take 8).drop (r + 1)).length ≤ 7 := by rw [List.length_drop, List.length_take]; omega
        have hpw : (256 : Nat) ^ (((nm s).take 8).drop (r + 1)).length ≤ 256 ^ 7 := Nat.pow_le_pow_right (by decide) hlen
        rw [show (256 : Nat) ^ 7 = 72057594037927936 by decide] at hpw
        obtain ⟨x, ex⟩ : ∃ x, leOf (((nm s).take 8).drop (r + 1)) = x := ⟨_, rfl⟩
        rw [ex] at hv q0 hlim
        have RN := R.low hw hg.2 h8 (by omega) (256 * x + b) hv.symm
        have hxl : x < 72057594037927936 := by omega
        have e1 : (r : Int) / 8 = 0 := by omega
        have en : ((256 * x + b : Nat) : Int) = 256 * (x : Int) + (b : Int) := by omega
        rw [en] at RN
        clear hv hlim hlen hpw ex eb en
        go_wp2
        go_region
        all_goals go_wp2
        all_goals exact ⟨⟨r, by omega, rfl, RN⟩, by simp [intOf]⟩
      · have hv := le_at_high s r (by omega)
        rw [eb] at hv
        have q0 := R.hi
        have q1 := R.fhi
        rw [Nat.max_eq_left (by omega)] at q0
        have hlim := leOf_lt ((nm s).drop (r + 1))
        have hlen : ((nm s).drop (r + 1)).length ≤ 7 := by rw [List.length_drop, nm_len]; omega
        have hpw : (256 : Nat) ^ ((nm s).drop (r + 1)).length ≤ 256 ^ 7 := Nat.pow_le_pow_right (by decide) hlen
        rw [show (256 : Nat) ^ 7 = 72057594037927936 by decide] at hpw
        obtain ⟨x, ex⟩ : ∃ x, leOf ((nm s).drop (r + 1)) = x := ⟨_, rfl⟩
        rw [ex] at hv q0 hlim
        have RN := R.high hw hg.2 h8 (by omega) (256 * x + b) hv.symm
        have hxl : x < 72057594037927936 := by omega
        have e1 : (r : Int) / 8 = 1 := by omega
        have en : ((256 * x + b : Nat) : Int) = 256 * (x : Int) + (b : Int) := by omega
        rw [en] at RN
        clear hv hlim hlen hpw ex eb en
        go_wp2
        go_region
        all_goals go_wp2
        all_goals exact ⟨⟨r, by omega, rfl, RN⟩, by simp [intOf]⟩
theorem rpack_not (s : ByteArray) (h : s.size = 0 ∨ 15 < s.size) (hm : s.size ≤ 9223372036854775807) (w : World) :
    Calls Try.prog 25 #[.string s] w fun e w' => e = .returned (.tuple #[.agg #[.int .u64 0, .int .u64 0], .bool false]) ∧ Below w.heap.size w w' := by
  have hb : Below w.heap.size w (w.alloc (.cells #[.int .u64 0, .int .u64 0] 31)) := (Below.refl _ _).alloc (Nat.le_refl _) _
  rcases h with h | h
  · have c1 : (s.size : Int) < 1 := by omega
    go_enter Try.func25, Try.ntmps25
    go_wp2
    exact bodyPost_ret (v := .tuple #[.agg #[.int .u64 0, .int .u64 0], .bool false]) (by simp [results, Try.results25, go_sem]) rfl ⟨rfl, hb⟩
  · have c1 : ¬ (s.size : Int) < 1 := by omega
    have c2 : 15 < (s.size : Int) := by omega
    go_enter Try.func25, Try.ntmps25
    go_wp2
    exact bodyPost_ret (v := .tuple #[.agg #[.int .u64 0, .int .u64 0], .bool false]) (by simp [results, Try.results25, go_sem]) rfl ⟨rfl, hb⟩
end Go.Proofs.Ytebkpcbajheciaa
