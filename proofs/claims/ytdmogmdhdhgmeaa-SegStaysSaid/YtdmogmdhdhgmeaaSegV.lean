/-
  The contract of the plain answer Diff: the offsets of all words that are unlike, rising, in a row of its own.
  Conditions: the words are rows of the call's own, or nil.
-/
import Derived.Test.YtdmogmdhdhgmeaaSegU
import Derived.Deep.QuietTactic
import Derived.BigQuiet
namespace Go.Proofs.Ytdmogmdhdhgmeaa
open Go.RowKit
set_option linter.unusedVariables false
set_option linter.unusedSimpArgs false

theorem unlike_iff (a b : List Nat) (k : Nat) (hk : k < max a.length b.length) : unlikeP a b (8 * k) ↔ (a.length ≤ k ∨ b.length ≤ k ∨ a.getD k 0 ≠ b.getD k 0) := by
  have e : 8 * k / 8 = k := by omega
  have sa : stands a (8 * k) ↔ k < a.length := by unfold stands; omega
  have sb : stands b (8 * k) ↔ k < b.length := by unfold stands; omega
  unfold unlikeP getW errW
  rw [e]
  simp only [sa, sb]
  by_cases h1 : k < a.length
  · by_cases h2 : k < b.length
    · rw [if_pos h1, if_pos h2, if_pos h1, if_pos h2]
      constructor
      · rintro (h | h)
        · exact .inr (.inr h)
        · exact absurd rfl h
      · rintro (h | h | h)
        · omega
        · omega
        · exact .inl h
    · rw [if_pos h1, if_neg h2, if_pos h1, if_neg h2]
      exact ⟨fun _ => .inr (.inl (by omega)), fun _ => .inr (by omega)⟩
  · by_cases h2 : k < b.length
    · rw [if_neg h1, if_pos h2, if_neg h1, if_pos h2]
      exact ⟨fun _ => .inl (by omega), fun _ => .inr (by omega)⟩
    · omega
theorem OwnW.addr {w : World} {base : Nat} {v : Value} {ws : List Nat} (h : OwnW w base v ws) : ∃ a c g, v = .slice a ws.length c ∧ (0 < ws.length → a = some ⟨g, 0, none⟩) ∧ ∀ w', OwnW w' base v ws → ∀ j, j < ws.length → w'.cell? ⟨g, j, none⟩ = some (.int .u64 (ws.getD j 0 : Nat)) := by
  rcases h.2 with ⟨h1, h2⟩ | ⟨g, cap, cur, hv, _⟩
  · exact ⟨none, 0, 0, by rw [h1, h2], fun h => by omega, fun w' _ j hj => by omega⟩
  · exact ⟨_, cap, g, hv, fun _ => rfl, fun w' h' j hj => by rw [hv] at h'; exact OwnW.at_ h' j hj⟩
theorem grown_drewN (w : World) (n : Nat) : w.grownBy (w.drewN n) none := ⟨rfl, rfl, rfl, Nat.le_refl _, fun _ _ _ => rfl⟩
set_option maxHeartbeats 1000000 in
theorem rdiff_any {w : World} {base base' : Nat} {p q : Value} {a b : List Nat} (hp : OwnW w base p a) (hq : OwnW w base' q b) (ha : a.length ≤ 131072) (hb : b.length ≤ 131072) :
    Calls Try.prog 18 #[p, q] w (DiffPost w a b) := by
  obtain ⟨pa, pc, pg, hpv, hpa, hpc⟩ := OwnW.addr hp
  obtain ⟨qa, qc, qg, hqv, hqa, hqc⟩ := OwnW.addr hq
  have hpc' := fun w' (hg : w.grownBy w' none) => hpc w' (hp.later hg)
  have hqc' := fun w' (hg : w.grownBy w' none) => hqc w' (hq.later hg)
  clear hpc hqc hp hq
  subst hpv
  subst hqv
  have R0 := DiffRel.first w a b
  have HPA := Lib.hid hpa
  have HQA := Lib.hid hqa
  clear hpa hqa
  go_enter Try.func18, Try.ntmps18
  go_wp2
  go_loopw [5, 6] (fun v i wr => ∃ k : Nat, k ≤ max a.length b.length ∧ i = .int .i64 k ∧ DiffRel w a b k v wr) (fun _ i _ => 1048576 - (intOf i).toNat)
  case atStart => exact ⟨0, Nat.zero_le _, rfl, R0⟩
  case round =>
    obtain ⟨k, hk, rfl, R⟩ := hrel
    clear R0
    have hlen := diffL_len a b k
    have hun := unlike_iff a b k
    have ho20 : k ≤ 131072 := by omega
    rcases Nat.lt_or_ge k a.length with h1 | h1 <;> rcases Nat.lt_or_ge k b.length with h2 | h2
    · have hu := hun (by omega)
      have HU := Lib.hid hu
      clear hun hu
      have c1 := hpc' _ R.grown k h1
      have c2 := hqc' _ R.grown k h2
      have ea := HPA.out (by omega)
      have eb := HQA.out (by omega)
      subst ea
      subst eb
      have d1 : decide ((a.length : Int) ≤ (k : Int)) = false := decide_eq_false (by omega)
      have d2 : decide ((b.length : Int) ≤ (k : Int)) = false := decide_eq_false (by omega)
      have d1' : decide (a.length ≤ k) = false := decide_eq_false (by omega)
      have d2' : decide (b.length ≤ k) = false := decide_eq_false (by omega)
      by_cases h3 : a.getD k 0 = b.getD k 0
      · have h3' : (((a.getD k 0 : Nat) : Int) != ((b.getD k 0 : Nat) : Int)) = false := by rw [bne_eq_false_iff_eq]; omega
        have hx : ¬ unlikeP a b (8 * k) := by rw [HU.out]; omega
        have HX := Lib.hid hx
        clear hx HU h3
        generalize a.getD k 0 = x at *
        generalize b.getD k 0 = y at *
        go_wp2
        go_quiet (fail)
        go_wp2
        go_roundw
        case rel => exact ⟨k + 1, by omega, by go_num, R.same (grown_drewN _ _) HX.out⟩
        case measure => simp [intOf]; omega
      · have h3' : (((a.getD k 0 : Nat) : Int) != ((b.getD k 0 : Nat) : Int)) = true := by rw [bne_iff_ne]; omega
        have hx : unlikeP a b (8 * k) := by rw [HU.out]; omega
        have HX := Lib.hid hx
        clear hx HU h3
        generalize a.getD k 0 = x at *
        generalize b.getD k 0 = y at *
        go_wp2
        go_quiet (fail)
        obtain ⟨w2, hw2⟩ : ∃ w2, w2 = wr.drewN nq := ⟨_, rfl⟩
        have hq3 : wr.grownBy w2 none := by rw [hw2]; exact grown_drewN _ _
        rw [← hw2]
        clear hw2
        have hown := own_kept R.own hq3
        have hbs := (grown_trans R.grown hq3).size
        go_wp2_with (at_builtin; go_must (refine wpList_append_u64 rfl _ _ rfl w.heap.size _ _ _ rfl hown _ rfl (by omega) hbs ?_); intro v' w3 hown3 hg4)
        go_roundw
        case rel => exact ⟨k + 1, by omega, by go_num, R.more hq3 _ hg4 HX.out (by rw [Int.natCast_mul]; exact hown3)⟩
        case measure => simp [intOf]; omega
    · have hx : unlikeP a b (8 * k) := by rw [hun (by omega)]; omega
      have HX := Lib.hid hx
      clear hx hun
      have d1 : decide ((a.length : Int) ≤ (k : Int)) = false := decide_eq_false (by omega)
      have d2 : decide ((b.length : Int) ≤ (k : Int)) = true := decide_eq_true (by omega)
      have d1' : decide (a.length ≤ k) = false := decide_eq_false (by omega)
      have d2' : decide (b.length ≤ k) = true := decide_eq_true (by omega)
      go_wp2
      go_quiet (fail)
      obtain ⟨w2, hw2⟩ : ∃ w2, w2 = wr.drewN nq := ⟨_, rfl⟩
      have hq3 : wr.grownBy w2 none := by rw [hw2]; exact grown_drewN _ _
      rw [← hw2]
      clear hw2
      have hown := own_kept R.own hq3
      have hbs := (grown_trans R.grown hq3).size
      go_wp2_with (at_builtin; go_must (refine wpList_append_u64 rfl _ _ rfl w.heap.size _ _ _ rfl hown _ rfl (by omega) hbs ?_); intro v' w3 hown3 hg4)
      go_roundw
      case rel => exact ⟨k + 1, by omega, by go_num, R.more hq3 _ hg4 HX.out (by rw [Int.natCast_mul]; exact hown3)⟩
      case measure => simp [intOf]; omega
    · have hx : unlikeP a b (8 * k) := by rw [hun (by omega)]; omega
      have HX := Lib.hid hx
      clear hx hun
      have d1 : decide ((a.length : Int) ≤ (k : Int)) = true := decide_eq_true (by omega)
      have d1' : decide (a.length ≤ k) = true := decide_eq_true (by omega)
      go_wp2
      go_quiet (fail)
      obtain ⟨w2, hw2⟩ : ∃ w2, w2 = wr.drewN nq := ⟨_, rfl⟩
      have hq3 : wr.grownBy w2 none := by rw [hw2]; exact grown_drewN _ _
      rw [← hw2]
      clear hw2
      have hown := own_kept R.own hq3
      have hbs := (grown_trans R.grown hq3).size
      go_wp2_with (at_builtin; go_must (refine wpList_append_u64 rfl _ _ rfl w.heap.size _ _ _ rfl hown _ rfl (by omega) hbs ?_); intro v' w3 hown3 hg4)
      go_roundw
      case rel => exact ⟨k + 1, by omega, by go_num, R.more hq3 _ hg4 HX.out (by rw [Int.natCast_mul]; exact hown3)⟩
      case measure => simp [intOf]; omega
    · have hend : k = max a.length b.length := by omega
      subst hend
      go_wp2
      go_ret
      exact ⟨_, rfl, R⟩
end Go.Proofs.Ytdmogmdhdhgmeaa
