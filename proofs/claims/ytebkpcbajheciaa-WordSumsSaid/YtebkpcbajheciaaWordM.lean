/-
  The contracts of Mul: the library's product of 128 bits, and the plain answer's.
  Conditions: the numbers are 0 to 2^64 - 1.
-/
import Derived.Test.YtebkpcbajheciaaWordB
import Derived.Laws.BitsAllLaws
namespace Go.Proofs.Ytebkpcbajheciaa
open Go.RowKit
set_option linter.unusedVariables false
set_option linter.unusedSimpArgs false
/-- A product out of its halves' products. -/
theorem mul_parts (x y x1 x0 y1 y0 a b c d : Nat) (ex : x = 4294967296 * x1 + x0) (ey : y = 4294967296 * y1 + y0) (ea : x1 * y1 = a) (eb : x1 * y0 = b) (ec : x0 * y1 = c) (ed : x0 * y0 = d) :
    x * y = 18446744073709551616 * a + 4294967296 * (b + c) + d := by
  subst ea eb ec ed
  rw [ex, ey, Nat.add_mul, Nat.mul_add, Nat.mul_add, Nat.mul_mul_mul_comm, Nat.mul_assoc 4294967296 x1 y0, Nat.mul_left_comm x0 4294967296 y1]
  omega
theorem half_le (x y : Nat) (hx : x ≤ 4294967295) (hy : y ≤ 4294967295) : x * y ≤ 18446744065119617025 := Nat.mul_le_mul hx hy
/-- What Mul64's text computes, with a name for each of its numbers. -/
theorem mul64_named (x y x1 x0 y1 y0 a b c d d1 t t1 t0 v v1 : Nat) (hx0 : bits .and .u64 (x : Int) 4294967295 = (x0 : Int)) (hx1 : (x : Int) / 4294967296 = (x1 : Int)) (hy0 : bits .and .u64 (y : Int) 4294967295 = (y0 : Int)) (hy1 : (y : Int) / 4294967296 = (y1 : Int))
    (ha : (x1 : Int) * (y1 : Int) = (a : Int)) (hb : (x1 : Int) * (y0 : Int) = (b : Int)) (hc : (x0 : Int) * (y1 : Int) = (c : Int)) (hd : (x0 : Int) * (y0 : Int) = (d : Int))
    (ba : a ≤ 18446744065119617025) (bb : b ≤ 18446744065119617025) (bc : c ≤ 18446744065119617025) (bd : d ≤ 18446744065119617025)
    (hd1 : (d : Int) / 4294967296 = (d1 : Int)) (bd1 : d1 ≤ 4294967295) (ht : (b : Int) + (d1 : Int) = (t : Int)) (ht0 : bits .and .u64 (t : Int) 4294967295 = (t0 : Int)) (bt0 : t0 ≤ 4294967295) (ht1 : (t : Int) / 4294967296 = (t1 : Int)) (bt1 : t1 ≤ 4294967295)
    (hv : (t0 : Int) + (c : Int) = (v : Int)) (hv1 : (v : Int) / 4294967296 = (v1 : Int)) (bv1 : v1 ≤ 4294967295) (w : World) :
    Calls Try.prog 29 #[.int .u64 x, .int .u64 y] w fun e w' => e = .returned (.tuple #[.int .u64 ((a : Int) + (t1 : Int) + (v1 : Int)), .int .u64 (IntKind.u64.wrap ((x : Int) * (y : Int)))]) ∧ w = w' := by
  have bt : (t : Int) ≤ 18446744073709551615 := by omega
  have bv : (v : Int) ≤ 18446744073709551615 := by omega
  go_enter Try.func29, Try.ntmps29
  go_wp2
  go_ret2
  exact ⟨rfl, rfl⟩
theorem low32 (n : Nat) (hn : n < 18446744073709551616) : bits .and .u64 (n : Int) 4294967295 = ((n % 4294967296 : Nat) : Int) := by
  rw [show (4294967295 : Int) = ((4294967295 : Nat) : Int) by rfl, u64_and_nat n 4294967295 hn (by decide), nat_mask32]
theorem mul64_any (x y : Nat) (hx : x < 18446744073709551616) (hy : y < 18446744073709551616) (w : World) :
    Calls Try.prog 29 #[.int .u64 x, .int .u64 y] w fun e w' => e = .returned (.tuple #[.int .u64 ((x * y / 18446744073709551616 : Nat) : Int), .int .u64 ((x * y % 18446744073709551616 : Nat) : Int)]) ∧ w = w' := by
  obtain ⟨x1, e1⟩ : ∃ q, q = x / 4294967296 := ⟨_, rfl⟩
  obtain ⟨x0, e0⟩ : ∃ q, q = x % 4294967296 := ⟨_, rfl⟩
  obtain ⟨y1, g1⟩ : ∃ q, q = y / 4294967296 := ⟨_, rfl⟩
  obtain ⟨y0, g0⟩ : ∃ q, q = y % 4294967296 := ⟨_, rfl⟩
  have ba := half_le x1 y1 (by omega) (by omega)
  have bb := half_le x1 y0 (by omega) (by omega)
  have bc := half_le x0 y1 (by omega) (by omega)
  have bd := half_le x0 y0 (by omega) (by omega)
  obtain ⟨a, ea⟩ : ∃ q, x1 * y1 = q := ⟨_, rfl⟩
  obtain ⟨b, eb⟩ : ∃ q, x1 * y0 = q := ⟨_, rfl⟩
  obtain ⟨c, ec⟩ : ∃ q, x0 * y1 = q := ⟨_, rfl⟩
  obtain ⟨d, ed⟩ : ∃ q, x0 * y0 = q := ⟨_, rfl⟩
  have hp := mul_parts x y x1 x0 y1 y0 a b c d (by omega) (by omega) ea eb ec ed
  have h := mul64_named x y x1 x0 y1 y0 a b c d (d / 4294967296) (b + d / 4294967296) ((b + d / 4294967296) / 4294967296) ((b + d / 4294967296) % 4294967296) ((b + d / 4294967296) % 4294967296 + c) (((b + d / 4294967296) % 4294967296 + c) / 4294967296)
    (by rw [e0]; exact low32 x hx) (by omega) (by rw [g0]; exact low32 y hy) (by omega) (by rw [← Int.natCast_mul, ea]) (by rw [← Int.natCast_mul, eb]) (by rw [← Int.natCast_mul, ec]) (by rw [← Int.natCast_mul, ed])
    (by omega) (by omega) (by omega) (by omega) (by omega) (by omega) (by omega) (low32 _ (by omega)) (by omega) (by omega) (by omega) (by omega) (by omega) (by omega) w
  have e : (a : Int) + (((b + d / 4294967296) / 4294967296 : Nat) : Int) + ((((b + d / 4294967296) % 4294967296 + c) / 4294967296 : Nat) : Int) = ((x * y / 18446744073709551616 : Nat) : Int) := by rw [hp]; omega
  rw [e, ← Int.natCast_mul, IntKind.wrap_u64, ← show ((x * y % 18446744073709551616 : Nat) : Int) = ((x * y : Nat) : Int) % 18446744073709551616 by rw [Int.natCast_emod]; rfl] at h
  exact h
theorem mul64_low (x y p : Nat) (hx : x < 18446744073709551616) (hy : y < 18446744073709551616) (ep : p = x * y) (hp : p < 18446744073709551616) (w : World) :
    Calls Try.prog 29 #[.int .u64 x, .int .u64 y] w fun e w' => e = .returned (.tuple #[.int .u64 0, .int .u64 p]) ∧ w = w' := by
  have h := mul64_any x y hx hy w
  rw [← ep, Nat.div_eq_of_lt hp, Nat.mod_eq_of_lt hp] at h
  exact h
theorem mul64_high (x y : Nat) (hx : x < 18446744073709551616) (hy : y < 18446744073709551616) (hp : 18446744073709551616 ≤ x * y) : ∃ u v : Nat, u ≠ 0 ∧ ∀ w : World,
    Calls Try.prog 29 #[.int .u64 x, .int .u64 y] w fun e w' => e = .returned (.tuple #[.int .u64 u, .int .u64 v]) ∧ w = w' :=
  ⟨_, _, by omega, mul64_any x y hx hy⟩
theorem mul_low (x y p : Nat) (hx : x < 18446744073709551616) (hy : y < 18446744073709551616) (ep : p = x * y) (hp : p < 18446744073709551616) (w : World) :
    Calls Try.prog 12 #[.int .u64 x, .int .u64 y] w fun e w' => e = .returned (.tuple #[.int .u64 p, .bool true]) ∧ w = w' := by
  have HP := Lib.hid ep
  clear ep
  go_enter Try.func12, Try.ntmps12
  go_wp2_with (first | (go_at_call 29; refine (mul64_low x y p hx hy HP.out hp _).mono ?_; rintro e w' ⟨rfl, rfl⟩))
  go_ret2
  exact ⟨rfl, rfl⟩
theorem mul_high (x y : Nat) (hx : x < 18446744073709551616) (hy : y < 18446744073709551616) (hp : 18446744073709551616 ≤ x * y) (w : World) :
    Calls Try.prog 12 #[.int .u64 x, .int .u64 y] w fun e w' => e = .returned (.tuple #[.int .u64 0, .bool false]) ∧ w = w' := by
  obtain ⟨u, v, hu, HM⟩ := mul64_high x y hx hy hp
  have hu' : ((u : Int) != 0) = true := by rw [bne_iff_ne]; omega
  clear hp hu
  go_enter Try.func12, Try.ntmps12
  go_wp2_with (first | (go_at_call 29; refine (HM _).mono ?_; rintro e w' ⟨rfl, rfl⟩))
  go_ret2
  exact ⟨rfl, rfl⟩
theorem rmul_zero (y : Nat) (hy : y < 18446744073709551616) (w : World) :
    Calls Try.prog 13 #[.int .u64 0, .int .u64 y] w fun e w' => e = .returned (.tuple #[.int .u64 0, .bool true]) ∧ w = w' := by
  go_enter Try.func13, Try.ntmps13
  go_wp2
  go_ret2
  exact ⟨ret_pair (by omega), rfl⟩
theorem rmul_low (x y p : Nat) (hx : x < 18446744073709551616) (hy : y < 18446744073709551616) (ep : p = x * y) (hp : p < 18446744073709551616) (w : World) :
    Calls Try.prog 13 #[.int .u64 x, .int .u64 y] w fun e w' => e = .returned (.tuple #[.int .u64 p, .bool true]) ∧ w = w' := by
  rcases Nat.eq_zero_or_pos x with h0 | h0
  · subst h0
    rw [Nat.zero_mul] at ep
    subst ep
    exact rmul_zero y hy w
  · have hq : y ≤ 18446744073709551615 / x := (Nat.le_div_iff_mul_le h0).mpr (by rw [Nat.mul_comm, ← ep]; omega)
    have hq' : ¬ (18446744073709551615 / (x : Int) < (y : Int)) := by
      have e : (18446744073709551615 : Int) / (x : Int) = ((18446744073709551615 / x : Nat) : Int) := by rw [Int.natCast_ediv]; rfl
      rw [e]; omega
    have he : (x : Int) * (y : Int) = (p : Int) := by rw [ep, Int.natCast_mul]
    have h0' : ((x : Int) != 0) = true := by rw [bne_iff_ne]; omega
    have h1 : 1 ≤ (x : Int) := by omega
    clear hq ep
    go_enter Try.func13, Try.ntmps13
    go_wp2
    go_ret2
    exact ⟨rfl, rfl⟩
theorem rmul_high (x y : Nat) (hx : x < 18446744073709551616) (hy : y < 18446744073709551616) (hp : 18446744073709551616 ≤ x * y) (w : World) :
    Calls Try.prog 13 #[.int .u64 x, .int .u64 y] w fun e w' => e = .returned (.tuple #[.int .u64 0, .bool false]) ∧ w = w' := by
  have h0 : 1 ≤ x := by
    rcases Nat.eq_zero_or_pos x with h | h
    · rw [h, Nat.zero_mul] at hp; omega
    · exact h
  have hq : 18446744073709551615 / x < y := by
    rw [Nat.div_lt_iff_lt_mul h0, Nat.mul_comm]; omega
  have hq' : 18446744073709551615 / (x : Int) < (y : Int) := by
    have e : (18446744073709551615 : Int) / (x : Int) = ((18446744073709551615 / x : Nat) : Int) := by rw [Int.natCast_ediv]; rfl
    rw [e]; omega
  have h0' : ((x : Int) != 0) = true := by rw [bne_iff_ne]; omega
  have h1 : 1 ≤ (x : Int) := by omega
  clear hq hp
  go_enter Try.func13, Try.ntmps13
  go_wp2
  go_ret2
  exact ⟨rfl, rfl⟩
end Go.Proofs.Ytebkpcbajheciaa
