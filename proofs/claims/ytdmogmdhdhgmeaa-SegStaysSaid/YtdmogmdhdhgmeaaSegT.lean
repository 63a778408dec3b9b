/-
  The contracts of the plain answers one and Bytes: a byte of words, and some bytes in a row of the call's own.
  Conditions: the words are a row of the call's own, or nil; the numbers are of 64 bits.
-/
import Derived.Test.YtdmogmdhdhgmeaaSegS
import Derived.Laws.BytesArg
namespace Go.Proofs.Ytdmogmdhdhgmeaa
open Go.RowKit
set_option linter.unusedVariables false
set_option linter.unusedSimpArgs false

/-- a word without its lowest k bytes -/
def dv (x k : Nat) : Nat := x / 256 ^ k
theorem dv_step (x k : Nat) : dv x k / 256 = dv x (k + 1) := by unfold dv; rw [Nat.div_div_eq_div_mul, Nat.pow_succ]
theorem dv_zero (x : Nat) : dv x 0 = x := by simp [dv]
theorem dv_wb (x k : Nat) : dv x k % 256 = wb x k := rfl
theorem dv_le (x k : Nat) : dv x k ≤ x := Nat.div_le_self _ _
set_option maxHeartbeats 400000 in
theorem one_any {w : World} {base : Nat} {v : Value} {ws : List Nat} (h : OwnW w base v ws) (hm : ws.length ≤ 131072) (hw : ∀ x ∈ ws, x < 18446744073709551616) (p : Nat) (hp : p < 8 * ws.length) :
    Calls Try.prog 23 #[v, .int .u64 p] w fun e w' => e = .returned (.int .u8 (byteN ws p : Nat)) ∧ w = w' := by
  obtain ⟨g, c, rfl, _, _⟩ := World.ownsRow.form h (by omega)
  obtain ⟨q, hq⟩ : ∃ q, p / 8 = q := ⟨_, rfl⟩
  obtain ⟨r, hr⟩ : ∃ r, p % 8 = r := ⟨_, rfl⟩
  have hql : q < ws.length := by omega
  have hrl : r < 8 := by omega
  have hcell := OwnW.at_ h q hql
  obtain ⟨x, hx⟩ : ∃ x, ws.getD q 0 = x := ⟨_, rfl⟩
  have hx64 : x < 18446744073709551616 := by rw [← hx]; exact getD_lt hw _
  have hb : byteN ws p = wb x r := by unfold byteN; rw [hq, hr, hx]
  rw [hx] at hcell
  rw [hb]
  have e1 : (p : Int) / 8 = (q : Int) := by omega
  have e2 : (p : Int) % 8 = (r : Int) := by omega
  clear hq hr hx hb
  have z := dv_zero x
  have Z := Lib.hid z
  clear z
  go_enter Try.func23, Try.ntmps23
  go_wp2
  go_loop [5, 6] (fun y i => ∃ k : Nat, k ≤ r ∧ i = .int .u64 k ∧ y = .int .u64 (dv x k)) (fun _ i => r - (intOf i).toNat)
  case atStart => exact ⟨0, Nat.zero_le _, rfl, by rw [Z.out]⟩
  case round =>
    obtain ⟨k, hk, rfl, rfl⟩ := hrel
    have hl := dv_le x k
    by_cases hlt : k < r
    · have hs : ((dv x k : Nat) : Int) / 256 = ((dv x (k + 1) : Nat) : Int) := by rw [← dv_step]; simp
      go_wp2
      go_round
      case rel => exact ⟨k + 1, by omega, by go_num, rfl⟩
      case measure => simp [intOf]; omega
    · obtain rfl : k = r := by omega
      have hs : IntKind.u8.wrap (((dv x k : Nat) : Int) % 256) = (wb x k : Nat) := by
        rw [← dv_wb, IntKind.wrap_u8]; omega
      go_wp2
      go_ret
      exact ⟨rfl, rfl⟩

/-- Bytes in memory: a slice (nil, where there is none) that holds them. -/
def BytesAt (w : World) (v : Value) (f : Nat → Nat) (n : Nat) : Prop :=
  (v = .slice none 0 0 ∧ n = 0) ∨ ∃ g c, v = .slice (some ⟨g, 0, none⟩) n c ∧ g < w.heap.size ∧ ∀ j, j < n → w.cell? ⟨g, j, none⟩ = some (.int .u8 (f j : Nat))
/-- the string of these bytes -/
def strN (f : Nat → Nat) (n : Nat) : ByteArray := strOfNums ((List.range n).map fun j => (f j : Int))
theorem BytesAt.later {w w' : World} {v : Value} {f : Nat → Nat} {n : Nat} (h : BytesAt w v f n) (hg : w.grownBy w' none) : BytesAt w' v f n := by
  rcases h with h | ⟨g, c, rfl, hlt, hc⟩
  · exact .inl h
  · refine .inr ⟨g, c, rfl, Nat.lt_of_lt_of_le hlt hg.size, fun j hj => ?_⟩
    rw [World.cell?_of_block (hg.block g hlt (by simp))]
    exact hc j hj
theorem BytesAt.str {w : World} {v : Value} {f : Nat → Nat} {n : Nat} (h : BytesAt w v f n) : (convert 30 9 v).run Try.prog w = .ok (.string (strN f n)) w := by
  rcases h with ⟨rfl, rfl⟩ | ⟨g, c, rfl, hlt, hc⟩
  · exact run_convert_bytes_nil (P := Try.prog) w 30 5 Try.underlying30 Try.underlying5 0 0 9 Try.underlying9
  · exact run_convert_bytes_arg (P := Try.prog) w 30 5 Try.underlying30 Try.underlying5 g 0 n c ((List.range n).map fun j => (f j : Int)) (by simp) (fun i hi => by
      rw [Nat.zero_add, hc i hi]
      simp [hi]) 9 Try.underlying9
theorem Told.bytes {w w' : World} {f : Nat → Nat} {n : Nat} (h : Told w f n w') : BytesAt w' (.slice (some ⟨w.heap.size, 0, none⟩) n n) f n :=
  .inr ⟨_, _, rfl, lt_of_block h.row, fun j hj => cell_of_row h.row j hj⟩
theorem strN_congr {f g : Nat → Nat} {n : Nat} (h : ∀ j, j < n → f j = g j) : strN f n = strN g n := by
  unfold strN
  congr 1
  apply List.map_congr_left
  intro j hj
  rw [h j (List.mem_range.mp hj)]
end Go.Proofs.Ytdmogmdhdhgmeaa
