/-
  Package seg: the contracts of New and of Bytes.
  Conditions: the segment is nobody's, or stands in memory; the numbers are of 64 bits.
-/
import Derived.Test.YtkpopaadkfgjaaaSegD
import Derived.Deep.WholeRow
import Derived.Laws.IdiomCopy
namespace Go.Proofs.Ytkpopaadkfgjaaa
open Go.RowKit
set_option linter.unusedVariables false
set_option linter.unusedSimpArgs false

theorem info_byte : (Try.prog.info? 5).map (fun i => (i.zero, i.size, i.bytes)) = some (some (.int .u8 0), 1, 1) := by kernel_rfl
theorem size_byte : (Try.prog.info? 5).map (·.size) = some 1 := by kernel_rfl
/-- make of n bytes -/
theorem make_bytes (k : IntKind) (n : Nat) (hn : n ≤ 1048576) (w : World) :
    (Instr.makeSlice 90 (.int k n) (.int k n)).run Try.prog w = .ok (.slice (some ⟨w.heap.size, 0, none⟩) n n) (w.alloc (.cells (rowOf (fun _ => 0) n) 5)) := by
  obtain ⟨i, hi, hz, hs, hb⟩ := info_parts info_byte
  have h := run_make (P := Try.prog) w 90 5 i _ Try.underlying90 hi hz k k n n (by omega) (Int.le_refl _) (by rw [hb]; omega) (by omega)
  rw [h, hs]
  simp only [Int.toNat_natCast, Nat.mul_one]
  rw [show (Value.int .u8 0).cells = #[.int .u8 0] from rfl, made_row]

/-- may a segment have so many bytes? -/
def may (n : Nat) : Prop := n ≠ 0 ∧ n % 8 = 0 ∧ n ≤ 1048576
instance (n : Nat) : Decidable (may n) := by unfold may; infer_instance
theorem new_no (n : Nat) (hlt : n < 18446744073709551616) (h : ¬ may n) (w : World) :
    Calls Try.prog 22 #[.int .u64 n] w fun e w' => e = .returned (.pointer none) ∧ w = w' := by
  by_cases h0 : n = 0
  · subst h0
    go_enter Try.func22, Try.ntmps22
    go_wp2
    go_ret
    exact ⟨rfl, rfl⟩
  · have c0 : ((n : Int) == 0) = false := by rw [beq_eq_false_iff_ne]; omega
    by_cases h8 : n % 8 = 0
    · have c1 : ((n : Int) % 8 != 0) = false := by rw [bne_eq_false_iff_eq]; omega
      have c2 : 1048576 < (n : Int) := by
        have : ¬ n ≤ 1048576 := fun hle => h ⟨h0, h8, hle⟩
        omega
      have H8 := Lib.hid h8
      clear h8 h
      go_enter Try.func22, Try.ntmps22
      go_wp2
      go_ret
      exact ⟨rfl, rfl⟩
    · have c1 : ((n : Int) % 8 != 0) = true := by rw [bne_iff_ne]; omega
      clear h
      go_enter Try.func22, Try.ntmps22
      go_wp2
      go_ret
      exact ⟨rfl, rfl⟩
theorem zeros_row (m : Nat) : rowOf (fun _ => 0) (8 * m) = rowOf (byteN (List.replicate m 0)) (8 * (List.replicate m 0).length) := by
  rw [List.length_replicate]
  refine rowOf_congr fun j hj => ?_
  unfold byteN
  have : (List.replicate m 0).getD (j / 8) 0 = 0 := by
    rw [List.getD_eq_getElem?_getD, List.getElem?_replicate]
    split <;> rfl
  rw [this]
  simp [wb]
theorem new_yes (m : Nat) (h1 : 1 ≤ m) (hm : m ≤ 131072) (w : World) :
    Calls Try.prog 22 #[.int .u64 (8 * m : Nat)] w fun e w' => e = .returned (.pointer (some ⟨w.heap.size + 1, 0, none⟩)) ∧ w.grownBy w' none ∧ IsSeg w' (w.heap.size + 1) w.heap.size (List.replicate m 0) := by
  have hmk := make_bytes .u64 (8 * m) (by omega)
  obtain ⟨n, hn⟩ : ∃ n, n = 8 * m := ⟨_, rfl⟩
  rw [← hn] at hmk ⊢
  have c0 : ((n : Int) == 0) = false := by rw [beq_eq_false_iff_ne]; omega
  have c1 : ((n : Int) % 8 != 0) = false := by rw [bne_eq_false_iff_eq]; omega
  have c2 : ¬ 1048576 < (n : Int) := by omega
  have H := Lib.hid hn
  clear hn
  go_enter Try.func22, Try.ntmps22
  go_wp2
  go_ret
  refine ⟨rfl, grown_trans (World.grownBy_alloc _ _ _) (World.grownBy_alloc _ _ _), ?_⟩
  have e := H.out
  subst e
  exact {
    head := by
      rw [List.length_replicate]
      have := heap_alloc_new' (w.alloc (.cells (rowOf (fun _ => 0) (8 * m)) 5)) (.cells #[.slice (some ⟨w.heap.size, 0, none⟩) (8 * m) (8 * m)] 92)
      rw [World.size_alloc] at this
      exact this
    data := by
      rw [← zeros_row, Below.heap_alloc _ _ _ (by simp)]
      exact heap_alloc_new' _ _
    ne := by omega
    words := by intro x hx; rw [List.eq_of_mem_replicate hx]; decide
    some1 := by simpa using h1
    most := by simpa using hm }
end Go.Proofs.Ytkpopaadkfgjaaa
