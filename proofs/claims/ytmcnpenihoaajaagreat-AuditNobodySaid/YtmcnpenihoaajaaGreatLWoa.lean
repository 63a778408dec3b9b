/-
  Texts of one layer, one behind the other: memory, contracts of the functions, and what follows of them.
  Conditions: as each theorem says.
-/
import Derived.Test.YtmcnpenihoaajaaGreatProg
import Derived.WalkKit
import Derived.WalkSpells
import Derived.WalkLawsBesides
import Derived.Handy
import Derived.Laws.Externs
import Derived.KernelRfl
import Derived.Laws.BitsAll
import Derived.Lib.Hide
import Derived.RegionTactic
import Derived.ChangeAlike
import Derived.BigRegion
import Derived.LoopTactic
import Derived.Deep.LoopGhost
import Derived.Laws.BitsAllLaws
import Derived.Deep.OwnRows
import Derived.Laws.BytesArg
import Derived.Laws.IdiomStrings
set_option linter.unusedVariables false
set_option linter.unusedSimpArgs false
namespace Go.Proofs.YtmcnpenihoaajaaGreat
open Go.RowKit
theorem ret_int {k : IntKind} {a b : Int} (h : a = b) : Ending.returned (.int k a) = .returned (.int k b) := by rw [h]
theorem add64_at (x y : Nat) (w : World) :
    (callFunc 222 #[.int .u64 x, .int .u64 y, .int .u64 0]).run Tryz.prog w =
      .ok (.value (.tuple #[.int .u64 (((x + y) % 18446744073709551616 : Nat) : Int), .int .u64 (((x + y) / 18446744073709551616 : Nat) : Int)])) w := by
  rw [run_callFunc_extern Tryz.func222 (by kernel_rfl) (by kernel_rfl) (by kernel_rfl) (e := add64Entry) (by kernel_rfl), run_add64 x y 0 (by omega) (by omega) (by omega) (by omega)]
  simp only [Result.andThen]
  congr 5 <;> omega
theorem add64_low (x y : Nat) (h : x + y < 18446744073709551616) (w : World) :
    (callFunc 222 #[.int .u64 x, .int .u64 y, .int .u64 0]).run Tryz.prog w =
      .ok (.value (.tuple #[.int .u64 ((x + y : Nat) : Int), .int .u64 0])) w := by
  rw [add64_at, Nat.mod_eq_of_lt h, Nat.div_eq_of_lt h]; rfl
theorem add64_high (x y : Nat) (hx : x < 18446744073709551616) (hy : y < 18446744073709551616) (h : 18446744073709551616 ≤ x + y) (w : World) :
    (callFunc 222 #[.int .u64 x, .int .u64 y, .int .u64 0]).run Tryz.prog w =
      .ok (.value (.tuple #[.int .u64 (((x + y) % 18446744073709551616 : Nat) : Int), .int .u64 1])) w := by
  rw [add64_at]
  have : (x + y) / 18446744073709551616 = 1 := by omega
  rw [this]; rfl
theorem add_low (x y : Nat) (h : x + y < 18446744073709551616) (w : World) :
    Calls Tryz.prog 192 #[.int .u64 x, .int .u64 y] w fun e w' => e = .returned (.tuple #[.int .u64 ((x + y : Nat) : Int), .bool true]) ∧ w = w' := by
  have c64 := add64_low x y h
  go_enter Tryz.func192, Tryz.ntmps192
  go_wp2_with (simp only [c64])
  go_ret2
  exact ⟨rfl, rfl⟩
theorem add_high (x y : Nat) (hx : x < 18446744073709551616) (hy : y < 18446744073709551616) (h : 18446744073709551616 ≤ x + y) (w : World) :
    Calls Tryz.prog 192 #[.int .u64 x, .int .u64 y] w fun e w' => e = .returned (.tuple #[.int .u64 0, .bool false]) ∧ w = w' := by
  have c64 := add64_high x y hx hy h
  go_enter Tryz.func192, Tryz.ntmps192
  go_wp2_with (simp only [c64])
  go_ret2
  exact ⟨rfl, rfl⟩
theorem mix_any (x : Int) (w : World) :
    Calls Tryz.prog 78 #[.int .u64 x] w fun e w' => e = .returned (.int .u64 (IntKind.u64.wrap (x * 11400714819323198485))) ∧ w = w' := by
  go_enter Tryz.func78, Tryz.ntmps78
  go_wp2
  go_ret
  exact ⟨rfl, rfl⟩
theorem words_any (n : Nat) (hn : n < 18446744073709551616) (w : World) :
    Calls Tryz.prog 107 #[.int .u64 n] w fun e w' => e = .returned (.int .u64 (((n + 7) / 8 : Nat) : Int)) ∧ w = w' := by
  by_cases h : (n : Int) % 8 = 0
  · go_enter Tryz.func107, Tryz.ntmps107
    go_wp2
    go_ret
    exact ⟨ret_int (by omega), rfl⟩
  · go_enter Tryz.func107, Tryz.ntmps107
    go_wp2
    go_ret
    exact ⟨ret_int (by omega), rfl⟩
end Go.Proofs.YtmcnpenihoaajaaGreat
namespace Go.Proofs.YtmcnpenihoaajaaGreat
open Go.RowKit
theorem ret_pair {k : IntKind} {a b : Int} {v : Value} (h : a = b) : Ending.returned (.tuple #[.int k a, v]) = .returned (.tuple #[.int k b, v]) := by rw [h]
def ones1 (x : Int) : Int := IntKind.u64.wrap (bits .and .u64 (x / 2) 6148914691236517205 + bits .and .u64 x 6148914691236517205)
def ones2 (x : Int) : Int := IntKind.u64.wrap (bits .and .u64 (x / 4) 3689348814741910323 + bits .and .u64 x 3689348814741910323)
def ones3 (x : Int) : Int := bits .and .u64 (IntKind.u64.wrap (x / 16 + x)) 1085102592571150095
def ones4 (x : Int) : Int := IntKind.u64.wrap (x + x / 256)
def ones5 (x : Int) : Int := IntKind.u64.wrap (x + x / 65536)
def ones6 (x : Int) : Int := IntKind.u64.wrap (x + x / 4294967296)
def onesOf (x : Int) : Int := bits .and .i64 (wrap64 (ones6 (ones5 (ones4 (ones3 (ones2 (ones1 x))))))) 127
theorem ones_any (n : Nat) (hn : n < 18446744073709551616) (w : World) :
    Calls Tryz.prog 223 #[.int .u64 n] w fun e w' => e = .returned (.int .i64 (onesOf n)) ∧ w = w' := by
  go_enter Tryz.func223, Tryz.ntmps223
  go_wp2
  go_ret
  refine ⟨ret_int ?_, rfl⟩
  show _ = bits .and .i64 (wrap64 (ones6 (ones5 (ones4 (ones3 (ones2 (ones1 n))))))) 127
  simp only [ones6, ones5, ones4, ones3, ones2, ones1]
theorem onesp : ∀ k, k < 64 → onesOf ((2 ^ k : Nat) : Int) = 1 := by decide +kernel
theorem mask_pow (k x : Nat) (hk : k < 64) (hx : x < 18446744073709551616) : bits .andNot .u64 (x : Int) (((2 ^ k : Nat) : Int) - 1) = ((x / 2 ^ k * 2 ^ k : Nat) : Int) := by
  have hp : 1 ≤ 2 ^ k := Nat.one_le_two_pow
  have hl : 2 ^ k ≤ 2 ^ 63 := Nat.pow_le_pow_right (by decide) (by omega)
  have e : ((2 ^ k : Nat) : Int) - 1 = ((2 ^ k - 1 : Nat) : Int) := by omega
  have e2 : 18446744073709551615 - (2 ^ k - 1) = 18446744073709551616 - 2 ^ k := by omega
  rw [e, u64_andNot_nat x _ hx (by omega), e2]
  have h := nat_midmask 64 k x (by omega)
  have e3 : (2 ^ 64 : Nat) = 18446744073709551616 := by decide
  rw [e3, Nat.mod_eq_of_lt hx] at h
  rw [h]
theorem up_low (n a : Nat) (h1 : onesOf a = 1) (hp : 1 ≤ a) (ha : a < 18446744073709551616) (h : n + (a - 1) < 18446744073709551616) (q : Nat) (hq : bits .andNot .u64 ((n : Int) + ((a - 1 : Nat) : Int)) ((a : Int) - 1) = (q : Int)) (w : World) :
    Calls Tryz.prog 193 #[.int .u64 n, .int .u64 a] w fun e w' => e = .returned (.tuple #[.int .u64 q, .bool true]) ∧ w = w' := by
  have hb : (onesOf (a : Int) != 1) = false := by rw [h1]; rfl
  have H1 := Lib.hid h1
  clear h1
  have HQ := Lib.hid hq
  clear hq
  have e1 : (a : Int) - 1 = ((a - 1 : Nat) : Int) := by omega
  have E1 := Lib.hid e1
  clear e1
  go_enter Tryz.func193, Tryz.ntmps193
  go_wp2_with (first | (go_at_call 223; refine (ones_any a ha _).mono ?_; rintro e w' ⟨rfl, rfl⟩) | (go_at_call 192; rw [E1.out]; refine (add_low n (a - 1) h _).mono ?_; rintro e w' ⟨rfl, rfl⟩))
  go_ret2
  exact ⟨ret_pair HQ.out, rfl⟩
theorem up_high (n a : Nat) (hn : n < 18446744073709551616) (h1 : onesOf a = 1) (hp : 1 ≤ a) (ha : a < 18446744073709551616) (h : 18446744073709551616 ≤ n + (a - 1)) (w : World) :
    Calls Tryz.prog 193 #[.int .u64 n, .int .u64 a] w fun e w' => e = .returned (.tuple #[.int .u64 0, .bool false]) ∧ w = w' := by
  have hb : (onesOf (a : Int) != 1) = false := by rw [h1]; rfl
  have H1 := Lib.hid h1
  clear h1
  have e1 : (a : Int) - 1 = ((a - 1 : Nat) : Int) := by omega
  have E1 := Lib.hid e1
  clear e1
  go_enter Tryz.func193, Tryz.ntmps193
  go_wp2_with (first | (go_at_call 223; refine (ones_any a ha _).mono ?_; rintro e w' ⟨rfl, rfl⟩) | (go_at_call 192; rw [E1.out]; refine (add_high n (a - 1) hn (by omega) h _).mono ?_; rintro e w' ⟨rfl, rfl⟩))
  go_ret2
  exact ⟨rfl, rfl⟩
theorem pow_bounds (k : Nat) (hk : k < 64) : 1 ≤ 2 ^ k ∧ 2 ^ k < 18446744073709551616 := by
  have hp : 1 ≤ 2 ^ k := Nat.one_le_two_pow
  have hl : 2 ^ k ≤ 2 ^ 63 := Nat.pow_le_pow_right (by decide) (by omega)
  exact ⟨hp, by omega⟩
theorem up_pow_low (n k a : Nat) (hk : k < 64) (ea : a = 2 ^ k) (h : n + (a - 1) < 18446744073709551616) (w : World) :
    Calls Tryz.prog 193 #[.int .u64 n, .int .u64 a] w fun e w' => e = .returned (.tuple #[.int .u64 (((n + (a - 1)) / a * a : Nat) : Int), .bool true]) ∧ w = w' := by
  have hb := pow_bounds k hk
  have hm := mask_pow k (n + (a - 1)) hk h
  rw [← ea] at hm hb
  have h1 := onesp k hk
  rw [← ea] at h1
  exact up_low n a h1 hb.1 hb.2 h _ (by rw [← hm, Int.natCast_add]) w
theorem up_pow_high (n k a : Nat) (hn : n < 18446744073709551616) (hk : k < 64) (ea : a = 2 ^ k) (h : 18446744073709551616 ≤ n + (a - 1)) (w : World) :
    Calls Tryz.prog 193 #[.int .u64 n, .int .u64 a] w fun e w' => e = .returned (.tuple #[.int .u64 0, .bool false]) ∧ w = w' := by
  have hb := pow_bounds k hk
  rw [← ea] at hb
  have h1 := onesp k hk
  rw [← ea] at h1
  exact up_high n a hn h1 hb.1 hb.2 h w
theorem need_small (n : Nat) (h : n < 8) (w : World) :
    Calls Tryz.prog 161 #[.int .u64 n] w fun e w' => e = .returned (.tuple #[.int .u64 48, .bool true]) ∧ w = w' := by
  go_enter Tryz.func161, Tryz.ntmps161
  go_wp2_with (first | (go_at_call 192; refine (add_low 8 40 (by decide) _).mono ?_; rintro e w' ⟨rfl, rfl⟩) | (go_at_call 193; refine (up_pow_low 48 4 16 (by decide) (by decide) (by decide) _).mono ?_; rintro e w' ⟨rfl, rfl⟩))
  go_ret2
  exact ⟨rfl, rfl⟩
theorem need_low (n : Nat) (h8 : 8 ≤ n) (h : n + 55 < 18446744073709551616) (w : World) :
    Calls Tryz.prog 161 #[.int .u64 n] w fun e w' => e = .returned (.tuple #[.int .u64 (((n + 55) / 16 * 16 : Nat) : Int), .bool true]) ∧ w = w' := by
  go_enter Tryz.func161, Tryz.ntmps161
  go_wp2_with (first | (go_at_call 192; refine (add_low n 40 (by omega) _).mono ?_; rintro e w' ⟨rfl, rfl⟩) | (go_at_call 193; refine (up_pow_low (n + 40) 4 16 (by decide) (by decide) (by omega) _).mono ?_; rintro e w' ⟨rfl, rfl⟩))
  go_ret2
  exact ⟨ret_pair (by omega), rfl⟩
theorem need_high (n : Nat) (hn : n < 18446744073709551616) (h : 18446744073709551616 ≤ n + 55) (w : World) :
    Calls Tryz.prog 161 #[.int .u64 n] w fun e w' => e = .returned (.tuple #[.int .u64 0, .bool false]) ∧ w = w' := by
  rcases Nat.lt_or_ge (n + 40) 18446744073709551616 with h4 | h4
  · go_enter Tryz.func161, Tryz.ntmps161
    go_wp2_with (first | (go_at_call 192; refine (add_low n 40 (by omega) _).mono ?_; rintro e w' ⟨rfl, rfl⟩) | (go_at_call 193; refine (up_pow_high (n + 40) 4 16 (by omega) (by decide) (by decide) (by omega) _).mono ?_; rintro e w' ⟨rfl, rfl⟩))
    go_ret2
    exact ⟨rfl, rfl⟩
  · go_enter Tryz.func161, Tryz.ntmps161
    go_wp2_with (first | (go_at_call 192; refine (add_high n 40 (by omega) (by decide) (by omega) _).mono ?_; rintro e w' ⟨rfl, rfl⟩))
    go_ret2
    exact ⟨rfl, rfl⟩
def needOf (n : Nat) : Nat := if n < 8 then 48 else (n + 55) / 16 * 16
theorem need_fits (n : Nat) (h : n + 55 < 18446744073709551616) (w : World) :
    Calls Tryz.prog 161 #[.int .u64 n] w fun e w' => e = .returned (.tuple #[.int .u64 (needOf n : Nat), .bool true]) ∧ w = w' := by
  unfold needOf
  by_cases h8 : n < 8
  · rw [if_pos h8]; exact need_small n h8 w
  · rw [if_neg h8]; exact need_low n (by omega) h w
end Go.Proofs.YtmcnpenihoaajaaGreat
namespace Go.Proofs.YtmcnpenihoaajaaGreat
open Go.RowKit
def leOf : List UInt8 → Nat
  | [] => 0
  | b :: r => b.toNat + 256 * leOf r
theorem leOf_lt : ∀ l : List UInt8, leOf l < 256 ^ l.length
  | [] => by simp [leOf]
  | b :: r => by
    have := leOf_lt r
    have hb := b.toNat_lt
    simp only [leOf, List.length_cons, Nat.pow_succ]
    omega
theorem leOf_snoc (b : UInt8) : ∀ l : List UInt8, leOf (l ++ [b]) = leOf l + b.toNat * 256 ^ l.length
  | [] => by simp [leOf]
  | c :: r => by
    have := leOf_snoc b r
    simp only [List.cons_append, leOf, this, List.length_cons, Nat.pow_succ]
    rw [Nat.mul_add]
    have : 256 * (b.toNat * 256 ^ r.length) = b.toNat * (256 ^ r.length * 256) := by
      rw [Nat.mul_comm 256, Nat.mul_assoc]
    omega
theorem or_join (x b i : Nat) (hi : i < 8) (hb : b < 256) (hx : x < 256 ^ i) : x ||| b * 2 ^ (8 * i) = x + b * 256 ^ i := by
  have e : (2 : Nat) ^ (8 * i) = 256 ^ i := by rw [Nat.pow_mul]
  rw [e, Nat.or_comm]
  have h := nat_join (8 * i) (b * 256 ^ i) x (by rw [e]; exact Nat.mul_mod_left _ _) (by rw [e]; exact hx)
  rw [h, Nat.add_comm]
theorem pow_le (i : Nat) (hi : i < 8) : 256 ^ i ≤ 72057594037927936 := by
  have : (256 : Nat) ^ i ≤ 256 ^ 7 := Nat.pow_le_pow_right (by decide) (by omega)
  have e : (256 : Nat) ^ 7 = 72057594037927936 := by decide
  omega
theorem lay_num (x b i : Nat) (hi : i < 8) (hb : b < 256) (hx : x < 256 ^ i) :
    bits .or .u64 (x : Int) (IntKind.u64.wrap ((b : Int) * 2 ^ (8 * i))) = ((x + b * 256 ^ i : Nat) : Int) := by
  have hp := pow_le i hi
  have hmul : b * 256 ^ i ≤ 255 * 256 ^ i := Nat.mul_le_mul_right _ (by omega)
  have e : (b : Int) * 2 ^ (8 * i) = ((b * 2 ^ (8 * i) : Nat) : Int) := by simp
  have e2 : (2 : Nat) ^ (8 * i) = 256 ^ i := by rw [Nat.pow_mul]
  rw [e, IntWalk.u64_in _ (by rw [e2]; omega), u64_or_nat x _ (by omega) (by rw [e2]; omega), or_join x b i hi hb hx]
theorem lay_low (i b x : Nat) (hi : i < 8) (hb : b < 256) (hx : x < 256 ^ i) (B : Nat) (w : World)
    (h0 : w.cell? ⟨B, 0, none⟩ = some (.int .u64 x)) (hf : w.frozen? ⟨B, 0, none⟩ = false) :
    Calls Tryz.prog 175 #[.int .i64 i, .int .u8 b, .pointer (some ⟨B, 0, none⟩)] w fun e w' => e = .returned (.tuple #[]) ∧ (w.setCell ⟨B, 0, none⟩ (.int .u64 ((x + b * 256 ^ i : Nat) : Int))).drew = w' := by
  have e1 : (i : Int) / 8 = 0 := by omega
  have hl := lay_num x b i hi hb hx
  have e2 : i % 8 = i := by omega
  go_enter Tryz.func175, Tryz.ntmps175
  go_wp2
  go_region
  all_goals go_end0
  all_goals exact ⟨rfl, rfl⟩
theorem lay_high (i j b x : Nat) (hi : j < 8) (ej : i = 8 + j) (hb : b < 256) (hx : x < 256 ^ j) (B : Nat) (w : World)
    (h0 : w.cell? ⟨B, 1, none⟩ = some (.int .u64 x)) (hf : w.frozen? ⟨B, 1, none⟩ = false) :
    Calls Tryz.prog 175 #[.int .i64 i, .int .u8 b, .pointer (some ⟨B, 0, none⟩)] w fun e w' => e = .returned (.tuple #[]) ∧ (w.setCell ⟨B, 1, none⟩ (.int .u64 ((x + b * 256 ^ j : Nat) : Int))).drew = w' := by
  have e1 : (i : Int) / 8 = 1 := by omega
  have hl := lay_num x b j hi hb hx
  have e2 : i % 8 = j := by omega
  have E := Lib.hid ej
  have hi16 : i < 16 := by omega
  clear ej
  go_enter Tryz.func175, Tryz.ntmps175
  go_wp2
  go_region
  all_goals go_end0
  all_goals exact ⟨rfl, rfl⟩
theorem lay_first (b : Nat) (hb : b < 256) (B : Nat) (w : World)
    (h0 : w.cell? ⟨B, 0, none⟩ = some (.int .u64 0)) (hf : w.frozen? ⟨B, 0, none⟩ = false) :
    Calls Tryz.prog 175 #[.int .i64 0, .int .u8 b, .pointer (some ⟨B, 0, none⟩)] w fun e w' => e = .returned (.tuple #[]) ∧ (w.setCell ⟨B, 0, none⟩ (.int .u64 b)).drew = w' := by
  have h := lay_low 0 b 0 (by decide) hb (by decide) B w h0 hf
  rw [show (0 + b * 256 ^ 0) = b by omega] at h
  exact h
end Go.Proofs.YtmcnpenihoaajaaGreat
namespace Go.Proofs.YtmcnpenihoaajaaGreat
open Go.RowKit
def hstep (h : Int) (b : UInt8) : Int := IntKind.u64.wrap (bits .xor .u64 h (IntKind.u64.wrap b.toNat) * 1099511628211)
def hashTo (s : ByteArray) (k : Nat) : Int := (s.data.toList.take k).foldl hstep 14695981039346656037
end Go.Proofs.YtmcnpenihoaajaaGreat
namespace Go.Proofs.YtmcnpenihoaajaaGreat
open Go.RowKit
namespace Pop
def f1 (c : Nat) : Nat := ((c / 2) &&& 0x55) + (c &&& 0x55)
def f2 (c : Nat) : Nat := ((c / 4) &&& 0x33) + (c &&& 0x33)
def f3 (c : Nat) : Nat := (c / 16 + c) &&& 0x0f
theorem d1 : ∀ c, c < 256 → ∀ t, t < 2 → (c / 2 + 128 * t) &&& 0x55 = (c / 2) &&& 0x55 := by decide +kernel
theorem d2 : ∀ c, c < 256 → ∀ t, t < 4 → (c / 4 + 64 * t) &&& 0x33 = (c / 4) &&& 0x33 := by decide +kernel
theorem d3 : ∀ c, c < 69 → c / 16 ≤ 4 ∧ c % 16 ≤ 4 → ∀ t, t < 5 → (c / 16 + 16 * t + c) &&& 0x0f = f3 c := by decide +kernel
def pc8 (c : Nat) : Nat := f3 (f2 (f1 c))
theorem f21 : ∀ c, c < 256 → f1 c < 256 ∧ f2 (f1 c) < 69 ∧ f2 (f1 c) / 16 ≤ 4 ∧ f2 (f1 c) % 16 ≤ 4 ∧ pc8 c ≤ 8 := by decide +kernel
end Pop
end Go.Proofs.YtmcnpenihoaajaaGreat
namespace Go.Proofs.YtmcnpenihoaajaaGreat
open Go.RowKit
def nm (s : ByteArray) : List UInt8 := UInt8.ofNat s.size :: s.data.toList
theorem nm_len (s : ByteArray) : (nm s).length = s.size + 1 := by simp [nm]
def loOf (s : ByteArray) (m : Nat) : Nat := leOf (((nm s).take m).take 8)
def hiOf (s : ByteArray) (m : Nat) : Nat := leOf (((nm s).take m).drop 8)
theorem nm_snoc (s : ByteArray) (k : Nat) (h : k < s.size) : (nm s).take (k + 2) = (nm s).take (k + 1) ++ [s[k]] := by
  rw [List.take_succ_eq_append_getElem (by rw [nm_len]; omega)]
  congr 1
theorem take_len (s : ByteArray) (m : Nat) (h : m ≤ s.size + 1) : ((nm s).take m).length = m := by
  rw [List.length_take, nm_len]; omega
theorem lo_step (s : ByteArray) (k : Nat) (h : k < s.size) (h8 : k + 1 < 8) : loOf s (k + 2) = loOf s (k + 1) + s[k].toNat * 256 ^ (k + 1) := by
  unfold loOf
  rw [List.take_of_length_le (i := 8) (by rw [take_len s _ (by omega)]; omega), List.take_of_length_le (i := 8) (by rw [take_len s _ (by omega)]; omega), nm_snoc s k h, leOf_snoc, take_len s _ (by omega)]
theorem hi_none (s : ByteArray) (m : Nat) (h : m ≤ 8) : hiOf s m = 0 := by
  unfold hiOf
  rw [List.drop_of_length_le (by rw [List.length_take]; omega)]
  rfl
theorem lo_stays (s : ByteArray) (m : Nat) (h8 : 8 ≤ m) : loOf s (m + 1) = loOf s m := by
  unfold loOf
  rw [List.take_take, List.take_take]
  congr 2
  omega
theorem hi_step (s : ByteArray) (k : Nat) (h : k < s.size) (h8 : 8 ≤ k + 1) : hiOf s (k + 2) = hiOf s (k + 1) + s[k].toNat * 256 ^ (k - 7) := by
  unfold hiOf
  rw [nm_snoc s k h, List.drop_append_of_le_length (by rw [take_len s _ (by omega)]; omega), leOf_snoc, List.length_drop, take_len s _ (by omega)]
  congr 3
theorem lo_lt (s : ByteArray) (m : Nat) (h : m ≤ s.size + 1) (h8 : m ≤ 8) : loOf s m < 256 ^ m := by
  have := leOf_lt (((nm s).take m).take 8)
  rw [List.length_take, take_len s _ h, Nat.min_eq_right h8] at this
  exact this
theorem hi_lt (s : ByteArray) (m : Nat) (h : m ≤ s.size + 1) : hiOf s m < 256 ^ (m - 8) := by
  have := leOf_lt (((nm s).take m).drop 8)
  rw [List.length_drop, take_len s _ h] at this
  exact this
theorem lo_first (s : ByteArray) (h : s.size < 256) : loOf s 1 = s.size := by
  simp [loOf, nm, leOf]
  omega
theorem set_same {w : World} {a : Addr} {v u : Value} (h : w.cell? a = some u) : (w.setCell a v).drew.cell? a = some v := by
  rw [World.cell?_drew]; exact World.cell?_setCell_same _ _ _ h
theorem set_other {w : World} {a b : Addr} {v : Value} {x : Option Value} (hne : a ≠ b) (h : w.cell? b = x) : (w.setCell a v).drew.cell? b = x := by
  rw [World.cell?_drew, World.cell?_setCell_other _ _ _ _ hne]; exact h
structure PackRel (w : World) (s : ByteArray) (k : Nat) (wr : World) : Prop where
  lo : wr.cell? ⟨w.heap.size + 1, 0, none⟩ = some (.int .u64 (loOf s (k + 1) : Nat))
  hi : wr.cell? ⟨w.heap.size + 1, 1, none⟩ = some (.int .u64 (hiOf s (k + 1) : Nat))
  flo : wr.frozen? ⟨w.heap.size + 1, 0, none⟩ = false
  fhi : wr.frozen? ⟨w.heap.size + 1, 1, none⟩ = false
  r0 : wr.cell? ⟨w.heap.size, 0, none⟩ = some (.int .u64 0)
  r1 : wr.cell? ⟨w.heap.size, 1, none⟩ = some (.int .u64 0)
  g0 : wr.frozen? ⟨w.heap.size, 0, none⟩ = false
  g1 : wr.frozen? ⟨w.heap.size, 1, none⟩ = false
  below : Below w.heap.size w wr
theorem PackRel.low {w wr : World} {s : ByteArray} {k : Nat} (R : PackRel w s k wr) (h : k < s.size) (h8 : k + 1 < 8) :
    PackRel w s (k + 1) (wr.setCell ⟨w.heap.size + 1, 0, none⟩ (.int .u64 ((loOf s (k + 1) + s[k].toNat * 256 ^ (k + 1) : Nat) : Int))).drew where
  lo := by rw [lo_step s k h h8]; exact set_same R.lo
  hi := set_other (by simp) (by rw [R.hi, hi_none s _ (by omega), hi_none s _ (by omega)])
  flo := by rw [World.frozen?_drew, World.frozen?_setCell]; exact R.flo
  fhi := by rw [World.frozen?_drew, World.frozen?_setCell]; exact R.fhi
  r0 := set_other (by simp) R.r0
  r1 := set_other (by simp) R.r1
  g0 := by rw [World.frozen?_drew, World.frozen?_setCell]; exact R.g0
  g1 := by rw [World.frozen?_drew, World.frozen?_setCell]; exact R.g1
  below := (R.below.setCell (by simp) _).drew
theorem PackRel.high {w wr : World} {s : ByteArray} {k : Nat} (R : PackRel w s k wr) (h : k < s.size) (h8 : 8 ≤ k + 1) :
    PackRel w s (k + 1) (wr.setCell ⟨w.heap.size + 1, 1, none⟩ (.int .u64 ((hiOf s (k + 1) + s[k].toNat * 256 ^ (k - 7) : Nat) : Int))).drew where
  hi := by rw [hi_step s k h h8]; exact set_same R.hi
  lo := set_other (by simp) (by rw [R.lo, lo_stays s (k + 1) h8])
  flo := by rw [World.frozen?_drew, World.frozen?_setCell]; exact R.flo
  fhi := by rw [World.frozen?_drew, World.frozen?_setCell]; exact R.fhi
  r0 := set_other (by simp) R.r0
  r1 := set_other (by simp) R.r1
  g0 := by rw [World.frozen?_drew, World.frozen?_setCell]; exact R.g0
  g1 := by rw [World.frozen?_drew, World.frozen?_setCell]; exact R.g1
  below := (R.below.setCell (by simp) _).drew
theorem PackRel.first (w : World) (s : ByteArray) (h : s.size < 256) : PackRel w s 0 ((w.alloc (.cells #[.int .u64 0, .int .u64 0] 184)).alloc (.cells #[.int .u64 s.size, .int .u64 0] 184)).drew where
  lo := by rw [lo_first s h]; go_cell
  hi := by rw [hi_none s _ (by omega)]; go_cell
  flo := by simp
  fhi := by simp
  r0 := by go_cell
  r1 := by go_cell
  g0 := by simp
  g1 := by simp
  below := (((Below.refl _ _).alloc (Nat.le_refl _) _).alloc (by simp) _).drew
end Go.Proofs.YtmcnpenihoaajaaGreat
namespace Go.Proofs.YtmcnpenihoaajaaGreat
open Go.RowKit
theorem lay_low_at (i : Int) (k b x : Nat) (ei : i = k) (hi : k < 8) (hb : b < 256) (hx : x < 256 ^ k) (B : Nat) (w : World)
    (h0 : w.cell? ⟨B, 0, none⟩ = some (.int .u64 x)) (hf : w.frozen? ⟨B, 0, none⟩ = false) :
    Calls Tryz.prog 175 #[.int .i64 i, .int .u8 b, .pointer (some ⟨B, 0, none⟩)] w fun e w' => e = .returned (.tuple #[]) ∧ (w.setCell ⟨B, 0, none⟩ (.int .u64 ((x + b * 256 ^ k : Nat) : Int))).drew = w' := by
  subst ei; exact lay_low k b x hi hb hx B w h0 hf
theorem lay_high_at (i : Int) (k j b x : Nat) (ei : i = k) (hi : j < 8) (ej : k = 8 + j) (hb : b < 256) (hx : x < 256 ^ j) (B : Nat) (w : World)
    (h0 : w.cell? ⟨B, 1, none⟩ = some (.int .u64 x)) (hf : w.frozen? ⟨B, 1, none⟩ = false) :
    Calls Tryz.prog 175 #[.int .i64 i, .int .u8 b, .pointer (some ⟨B, 0, none⟩)] w fun e w' => e = .returned (.tuple #[]) ∧ (w.setCell ⟨B, 1, none⟩ (.int .u64 ((x + b * 256 ^ j : Nat) : Int))).drew = w' := by
  subst ei; exact lay_high k j b x hi ej hb hx B w h0 hf
set_option maxHeartbeats 400000 in
theorem pack_any (s : ByteArray) (h1 : 1 ≤ s.size) (h2 : s.size ≤ 15) (w : World) :
    Calls Tryz.prog 146 #[.string s] w fun e w' => e = .returned (.tuple #[.agg #[.int .u64 (loOf s (s.size + 1) : Nat), .int .u64 (hiOf s (s.size + 1) : Nat)], .bool true]) ∧ Below w.heap.size w w' := by
  have c1 : ((s.size : Int) == 0) = false := by rw [beq_eq_false_iff_ne]; omega
  have c3 : ¬ s = ByteArray.empty := by intro h; rw [h] at h1; exact absurd h1 (by decide)
  have c2 : ¬ (15 < (s.size : Int)) := by omega
  have R0 := PackRel.first w s (by omega)
  go_enter Tryz.func146, Tryz.ntmps146
  go_wp2_with (first | (go_at_call 175; refine (lay_first s.size (by omega) (w.heap.size + 1) _ (by go_cell) (by simp)).mono ?_; rintro e w' ⟨rfl, rfl⟩))
  go_loopw [24] (fun i wr => ∃ k : Nat, k ≤ s.size ∧ i = .int .i64 k ∧ PackRel w s k wr) (fun i _ => s.size - (intOf i).toNat)
  case atStart => exact ⟨0, Nat.zero_le _, rfl, R0⟩
  case round =>
    obtain ⟨k, hk, rfl, R⟩ := hrel
    clear R0
    by_cases hlt : k < s.size
    · have hb := s[k].toNat_lt
      rcases Nat.lt_or_ge (k + 1) 8 with h8 | h8
      · go_wp2_with (first | (go_at_call 175; refine (lay_low_at _ (k + 1) _ (loOf s (k + 1)) (by omega) h8 hb (lo_lt s (k + 1) (by omega) (by omega)) (w.heap.size + 1) _ R.lo R.flo).mono ?_; rintro e w' ⟨rfl, rfl⟩))
        go_roundw
        case rel => exact ⟨k + 1, by omega, by go_num, R.low hlt h8⟩
        case measure => simp [intOf]; omega
      · go_wp2_with (first | (go_at_call 175; refine (lay_high_at _ (k + 1) (k - 7) _ (hiOf s (k + 1)) (by omega) (by omega) (by omega) hb (hi_lt s (k + 1) (by omega)) (w.heap.size + 1) _ R.hi R.fhi).mono ?_; rintro e w' ⟨rfl, rfl⟩))
        go_roundw
        case rel => exact ⟨k + 1, by omega, by go_num, R.high hlt h8⟩
        case measure => simp [intOf]; omega
    · obtain rfl : k = s.size := by omega
      have q0 := R.lo
      have q1 := R.hi
      have q2 := R.r0
      have q3 := R.r1
      have q4 := R.g0
      have q5 := R.g1
      go_wp2
      exact bodyPost_ret (v := .tuple #[.agg #[.int .u64 (loOf s (s.size + 1) : Nat), .int .u64 (hiOf s (s.size + 1) : Nat)], .bool true]) (by simp [results, Tryz.results146, go_sem, q2, q3]) rfl ⟨rfl, (R.below.setCell (by simp) _).setCell (by simp) _⟩
theorem pack_not (s : ByteArray) (h : s.size = 0 ∨ 15 < s.size) (hm : s.size ≤ 9223372036854775807) (w : World) :
    Calls Tryz.prog 146 #[.string s] w fun e w' => e = .returned (.tuple #[.agg #[.int .u64 0, .int .u64 0], .bool false]) ∧ Below w.heap.size w w' := by
  have hb : Below w.heap.size w ((w.alloc (.cells #[.int .u64 0, .int .u64 0] 184)).alloc (.cells #[.int .u64 0, .int .u64 0] 184)) := ((Below.refl _ _).alloc (Nat.le_refl _) _).alloc (by simp) _
  rcases h with h | h
  · obtain rfl : s = ByteArray.empty := by
      cases s with
      | mk d => have : d = #[] := Array.eq_empty_of_size_eq_zero h; rw [this]; rfl
    go_enter Tryz.func146, Tryz.ntmps146
    go_wp2
    exact bodyPost_ret (v := .tuple #[.agg #[.int .u64 0, .int .u64 0], .bool false]) (by simp [results, Tryz.results146, go_sem]) rfl ⟨rfl, hb⟩
  · have c1 : ((s.size : Int) == 0) = false := by rw [beq_eq_false_iff_ne]; omega
    have c3 : ¬ s = ByteArray.empty := by intro h1; rw [h1] at h; exact absurd h (by decide)
    have c2 : 15 < (s.size : Int) := by omega
    go_enter Tryz.func146, Tryz.ntmps146
    go_wp2
    exact bodyPost_ret (v := .tuple #[.agg #[.int .u64 0, .int .u64 0], .bool false]) (by simp [results, Tryz.results146, go_sem]) rfl ⟨rfl, hb⟩
end Go.Proofs.YtmcnpenihoaajaaGreat
namespace Go.Proofs.YtmcnpenihoaajaaGreat
open Go.RowKit
theorem pow256 (i : Nat) : (2 : Nat) ^ (8 * i) = 256 ^ i := by rw [Nat.pow_mul]
theorem pow256_int (i : Nat) : (2 : Int) ^ (8 * i) = ((256 ^ i : Nat) : Int) := by rw [← pow256]; simp
theorem byte_low (i : Int) (k x : Nat) (ei : i = k) (hk : k < 8) (hx : x < 18446744073709551616) (B : Nat) (w : World)
    (h0 : w.cell? ⟨B, 0, none⟩ = some (.int .u64 x)) :
    Calls Tryz.prog 145 #[.int .i64 i, .pointer (some ⟨B, 0, none⟩)] w fun e w' => e = .returned (.int .u8 ((x / 256 ^ k % 256 : Nat) : Int)) ∧ w = w' := by
  subst ei
  have e1 : (k : Int) / 8 = 0 := by omega
  have e2 : k % 8 = k := by omega
  go_enter Tryz.func145, Tryz.ntmps145
  go_wp2
  go_ret
  exact ⟨ret_int (by rw [pow256_int, ← Int.natCast_ediv]; omega), rfl⟩
theorem byte_high (i : Int) (k x : Nat) (ei : i = (8 + k : Nat)) (hk : k < 8) (hx : x < 18446744073709551616) (B : Nat) (w : World)
    (h0 : w.cell? ⟨B, 1, none⟩ = some (.int .u64 x)) :
    Calls Tryz.prog 145 #[.int .i64 i, .pointer (some ⟨B, 0, none⟩)] w fun e w' => e = .returned (.int .u8 ((x / 256 ^ k % 256 : Nat) : Int)) ∧ w = w' := by
  obtain ⟨j, hj⟩ : ∃ j, j = 8 + k := ⟨_, rfl⟩
  rw [← hj] at ei
  subst ei
  have e1 : (j : Int) / 8 = 1 := by omega
  have e2 : j % 8 = k := by omega
  have hj16 : j < 16 := by omega
  clear hj
  go_enter Tryz.func145, Tryz.ntmps145
  go_wp2
  go_ret
  exact ⟨ret_int (by rw [pow256_int, ← Int.natCast_ediv]; omega), rfl⟩
theorem size_w (w : World) : (sizeOf 22).run Tryz.prog w = .ok 1 w := by kernel_rfl
theorem part0 (a b : Value) (w : World) : (part 22 #[a, b] (0 * 1)).run Tryz.prog w = .ok a w := by kernel_rfl
theorem part1 (a b : Value) (w : World) : (part 22 #[a, b] (1 * 1)).run Tryz.prog w = .ok b w := by kernel_rfl
theorem eq_arr (a b c d : Int) (w : World) : (Op.equalIn 10000 184 (.agg #[.int .u64 a, .int .u64 b]) (.agg #[.int .u64 c, .int .u64 d])).run Tryz.prog w = .ok (a == c && b == d) w := by
  show (Op.equalIn (9998 + 1 + 1) 184 (.agg #[.int .u64 a, .int .u64 b]) (.agg #[.int .u64 c, .int .u64 d])).run Tryz.prog w = .ok (a == c && b == d) w
  have hi : ∀ x y : Int, (Op.equalIn (9998 + 1) 22 (.int .u64 x) (.int .u64 y)).run Tryz.prog w = .ok (x == y) w := fun x y => run_equalIn_int w 9998 22 .u64 .u64 x y Tryz.underlying22
  rw [Op.equalIn]
  simp only [Sem.run_bind, run_underlying Tryz.underlying184, Result.andThen_ok, size_w, Std.Legacy.Range.forIn_eq_forIn_range', Std.Legacy.Range.size]
  rw [show List.range' 0 ((2 - 0 + 1 - 1) / 1) = [0, 1] by decide]
  simp only [List.forIn_cons, List.forIn_nil, Sem.run_bind, part0, part1, hi, Result.andThen_ok, Sem.run_ite, Sem.run_pure]
  cases h1 : (a == c)
  · rfl
  · simp only [Bool.not_true, Bool.false_eq_true, if_false, Result.andThen_ok, Sem.run_bind, part1, hi, Sem.run_ite, Sem.run_pure]
    cases h2 : (b == d) <;> rfl
end Go.Proofs.YtmcnpenihoaajaaGreat
namespace Go.Proofs.YtmcnpenihoaajaaGreat
open Go.RowKit
set_option maxRecDepth 100000
def byteAt (x0 x1 i : Nat) : Nat := if i < 8 then x0 / 256 ^ i % 256 else x1 / 256 ^ (i - 8) % 256
theorem byteAt_lt (x0 x1 i : Nat) : byteAt x0 x1 i < 256 := by unfold byteAt; split <;> exact Nat.mod_lt _ (by decide)
def numsOf (x0 x1 n : Nat) : List Int := (List.range n).map fun j => (byteAt x0 x1 (j + 1) : Int)
def strOf (x0 x1 n : Nat) : ByteArray := strOfNums (numsOf x0 x1 n)
theorem nums_len (x0 x1 n : Nat) : (numsOf x0 x1 n).length = n := by simp [numsOf]
theorem str_size (x0 x1 n : Nat) : (strOf x0 x1 n).size = n := by unfold strOf; rw [strOfNums_size, nums_len]
theorem nums_at (x0 x1 n i : Nat) (h : i < n) : (numsOf x0 x1 n).getD i 0 = byteAt x0 x1 (i + 1) := by
  simp [numsOf, List.getD, h]
structure NameRel (w : World) (x0 x1 n k : Nat) (wr : World) : Prop where
  c0 : wr.cell? ⟨w.heap.size, 0, none⟩ = some (.int .u64 x0)
  c1 : wr.cell? ⟨w.heap.size, 1, none⟩ = some (.int .u64 x1)
  row : wr.rowIs (w.heap.size + 1) 5 n (fun j => .int .u8 ((if j < k then byteAt x0 x1 (j + 1) else 0 : Nat) : Int))
  below : Below w.heap.size w wr
theorem NameRel.first (w : World) (x0 x1 n : Nat) : NameRel w x0 x1 n 0 ((w.alloc (.cells #[.int .u64 x0, .int .u64 x1] 184)).alloc (.cells (madeCells #[.int .u8 0] n) 5)) where
  c0 := by go_cell
  c1 := by go_cell
  row := by
    have h := World.rowIs_made (w.alloc (.cells #[.int .u64 x0, .int .u64 x1] 184)) (.int .u8 0) n 5
    rw [World.size_alloc] at h
    exact h.congr (fun i _ => by simp)
  below := ((Below.refl _ _).alloc (Nat.le_refl _) _).alloc (by simp) _
theorem NameRel.next {w wr : World} {x0 x1 n k : Nat} (R : NameRel w x0 x1 n k wr) : NameRel w x0 x1 n (k + 1) (wr.setCell ⟨w.heap.size + 1, k, none⟩ (.int .u8 (byteAt x0 x1 (k + 1) : Nat))) where
  c0 := by rw [World.cell?_setCell_other _ _ _ _ (by simp)]; exact R.c0
  c1 := by rw [World.cell?_setCell_other _ _ _ _ (by simp)]; exact R.c1
  row := (R.row.set k _).congr (fun i _ => by
    by_cases h : i = k
    · subst h; simp
    · have : i < k + 1 ↔ i < k := by omega
      simp [h, this])
  below := R.below.setCell (by simp) _
theorem byte_any (i : Int) (k x0 x1 : Nat) (ei : i = k) (hk : k < 16) (h0 : x0 < 18446744073709551616) (h1 : x1 < 18446744073709551616) (B : Nat) (w : World)
    (c0 : w.cell? ⟨B, 0, none⟩ = some (.int .u64 x0)) (c1 : w.cell? ⟨B, 1, none⟩ = some (.int .u64 x1)) :
    Calls Tryz.prog 145 #[.int .i64 i, .pointer (some ⟨B, 0, none⟩)] w fun e w' => e = .returned (.int .u8 (byteAt x0 x1 k : Nat)) ∧ w = w' := by
  unfold byteAt
  by_cases h : k < 8
  · rw [if_pos h]; exact byte_low i k x0 ei h h0 B w c0
  · rw [if_neg h]; exact byte_high i (k - 8) x1 (by omega) (by omega) h1 B w c1
theorem info_u8 : (Tryz.prog.info? 5).map (fun i => (i.zero, i.size, i.bytes)) = some (some (.int .u8 0), 1, 1) := by kernel_rfl
set_option maxHeartbeats 1000000 in
theorem name_core (x0 x1 n lo hi : Nat) (ok bb : Bool) (h0 : x0 < 18446744073709551616) (h1 : x1 < 18446744073709551616) (en : byteAt x0 x1 0 = n) (hn15 : n ≤ 15)
    (HP : ∀ w : World, Calls Tryz.prog 146 #[.string (strOf x0 x1 n)] w fun e w' => e = .returned (.tuple #[.agg #[.int .u64 lo, .int .u64 hi], .bool ok]) ∧ Below w.heap.size w w')
    (hbb : (ok = false ∧ bb = false) ∨ (ok = true ∧ ((lo : Int) == (x0 : Int) && (hi : Int) == (x1 : Int)) = bb)) (w : World) :
    Calls Tryz.prog 110 #[.agg #[.int .u64 x0, .int .u64 x1]] w fun e w' => e = .returned (.tuple #[.string (if bb then strOf x0 x1 n else ByteArray.empty), .bool bb]) ∧ Below w.heap.size w w' := by
  have hmk := fun w => run_make_row' (P := Tryz.prog) 49 5 (.int .u8 0) 1 Tryz.underlying49 info_u8 rfl .i64 .i64 n (by omega) (by omega) w
  have R0 := NameRel.first w x0 x1 n
  have hd : decide (15 < (n : Int)) = false := by rw [decide_eq_false_iff_not]; omega
  have hls := nums_len x0 x1 n
  have HLS := Lib.hid hls
  clear hls
  go_enter Tryz.func110, Tryz.ntmps110
  go_wp2_with (first | (go_at_call 145; refine (byte_any _ 0 x0 x1 rfl (by decide) h0 h1 w.heap.size _ (by go_cell) (by go_cell)).mono ?_; rw [en]; rintro e w' ⟨rfl, rfl⟩))
  go_loopw [20] (fun i wr => ∃ k : Nat, k ≤ n ∧ i = .int .i64 k ∧ NameRel w x0 x1 n k wr) (fun i _ => n - (intOf i).toNat)
  case atStart => exact ⟨0, Nat.zero_le _, rfl, R0⟩
  case round =>
    obtain ⟨k, hk, rfl, R⟩ := hrel
    clear R0
    by_cases hlt : k < n
    · have q0 := R.row.cell hlt
      have q1 := R.row.frozen k
      go_wp2_with (first | (go_at_call 145; refine (byte_any _ (k + 1) x0 x1 (by omega) (by omega) h0 h1 w.heap.size _ R.c0 R.c1).mono ?_; rintro e w' ⟨rfl, rfl⟩))
      go_roundw
      case rel => exact ⟨k + 1, by omega, by go_num, R.next⟩
      case measure => simp [intOf]; omega
    · obtain rfl : k = n := by omega
      have hconv := run_convert_bytes_arg (P := Tryz.prog) wr 49 5 Tryz.underlying49 Tryz.underlying5 (w.heap.size + 1) 0 k k (numsOf x0 x1 k) HLS.out (fun i hi => by
        rw [nums_at x0 x1 k i hi, Nat.zero_add, R.row.cell hi]; simp [hi]) 9 Tryz.underlying9
      have q0 := R.c0
      have q1 := R.c1
      have heq := eq_arr
      have hsz := R.below.size
      rcases hbb with ⟨rfl, rfl⟩ | ⟨rfl, hbb⟩
      rotate_left
      cases bb
      all_goals
        go_wp2_with (first | (go_at_call 146; refine (HP _).mono ?_; rintro e w1 ⟨rfl, hb1⟩; have q2 := cell_later hb1 q0; have q3 := cell_later hb1 q1; have hs1 := hb1.size; have hrl := R.row.lt; have hs2 : w.heap.size < w1.heap.size := by omega))
        go_ret2
        exact ⟨rfl, (R.below.trans (hb1.mono hsz)).alloc (by omega) _⟩
set_option maxHeartbeats 1000000 in
theorem name_big (x0 x1 n : Nat) (h0 : x0 < 18446744073709551616) (h1 : x1 < 18446744073709551616) (en : byteAt x0 x1 0 = n) (hn : 15 < n) (w : World) :
    Calls Tryz.prog 110 #[.agg #[.int .u64 x0, .int .u64 x1]] w fun e w' => e = .returned (.tuple #[.string ByteArray.empty, .bool false]) ∧ Below w.heap.size w w' := by
  have hb := byteAt_lt x0 x1 0
  rw [en] at hb
  go_enter Tryz.func110, Tryz.ntmps110
  go_wp2_with (first | (go_at_call 145; refine (byte_any _ 0 x0 x1 rfl (by decide) h0 h1 w.heap.size _ (by go_cell) (by go_cell)).mono ?_; rw [en]; rintro e w' ⟨rfl, rfl⟩))
  go_ret2
  exact ⟨rfl, (Below.refl _ _).alloc (Nat.le_refl _) _⟩
theorem le_byte : ∀ (i : Nat) (l : List UInt8), leOf l / 256 ^ i % 256 = (l[i]?.getD 0).toNat
  | 0, [] => by simp [leOf]
  | 0, b :: r => by
    have hb := b.toNat_lt
    simp only [leOf, Nat.pow_zero, Nat.div_one, List.getElem?_cons_zero, Option.getD_some]
    omega
  | i + 1, [] => by simp [leOf]
  | i + 1, b :: r => by
    have hb := b.toNat_lt
    have ih := le_byte i r
    have e : (b.toNat + 256 * leOf r) / 256 = leOf r := by omega
    simp only [leOf, List.getElem?_cons_succ]
    rw [Nat.pow_succ, Nat.mul_comm (256 ^ i) 256, ← Nat.div_div_eq_div_mul, e, ih]
def loS (s : ByteArray) : Nat := loOf s (s.size + 1)
def hiS (s : ByteArray) : Nat := hiOf s (s.size + 1)
theorem nm_all (s : ByteArray) : (nm s).take (s.size + 1) = nm s := List.take_of_length_le (by rw [nm_len]; exact Nat.le_refl _)
theorem loS_lt (s : ByteArray) : loS s < 18446744073709551616 := by
  have := leOf_lt (((nm s).take (s.size + 1)).take 8)
  have h2 : (((nm s).take (s.size + 1)).take 8).length ≤ 8 := by rw [List.length_take]; omega
  have h3 : (256 : Nat) ^ (((nm s).take (s.size + 1)).take 8).length ≤ 256 ^ 8 := Nat.pow_le_pow_right (by decide) h2
  rw [show (256 : Nat) ^ 8 = 18446744073709551616 by decide] at h3
  unfold loS loOf
  omega
theorem hiS_lt (s : ByteArray) (h : s.size ≤ 15) : hiS s < 18446744073709551616 := by
  have := leOf_lt (((nm s).take (s.size + 1)).drop 8)
  have h2 : (((nm s).take (s.size + 1)).drop 8).length ≤ 8 := by rw [List.length_drop, take_len s _ (Nat.le_refl _)]; omega
  have h3 : (256 : Nat) ^ (((nm s).take (s.size + 1)).drop 8).length ≤ 256 ^ 8 := Nat.pow_le_pow_right (by decide) h2
  rw [show (256 : Nat) ^ 8 = 18446744073709551616 by decide] at h3
  unfold hiS hiOf
  omega
theorem byte_of (s : ByteArray) (i : Nat) : byteAt (loS s) (hiS s) i = ((nm s)[i]?.getD 0).toNat := by
  unfold byteAt loS hiS loOf hiOf
  rw [nm_all]
  by_cases h : i < 8
  · rw [if_pos h, le_byte, List.getElem?_take_of_lt h]
  · rw [if_neg h, le_byte, List.getElem?_drop, show 8 + (i - 8) = i by omega]
theorem byte_first (s : ByteArray) (h : s.size < 256) : byteAt (loS s) (hiS s) 0 = s.size := by
  rw [byte_of]
  simp [nm]
  omega
theorem str_of (s : ByteArray) : strOf (loS s) (hiS s) s.size = s := by
  have h : (strOf (loS s) (hiS s) s.size).data.toList = s.data.toList := by
    unfold strOf
    rw [strOfNums_data]
    apply List.ext_getElem?
    intro i
    by_cases hi : i < s.size
    · have hi' : i < s.data.toList.length := by simpa using hi
      simp only [numsOf, List.map_map, List.getElem?_map, List.getElem?_range hi, Option.map_some, Function.comp]
      rw [byte_of, List.getElem?_eq_getElem hi']
      simp [nm, List.getElem?_eq_getElem hi']
    · rw [List.getElem?_eq_none (by simp [numsOf]; omega), List.getElem?_eq_none (by simp; omega)]
  cases hs : strOf (loS s) (hiS s) s.size with
  | mk d =>
    rw [hs] at h
    cases s with
    | mk d' => exact congrArg ByteArray.mk (Array.toList_inj.mp h)
theorem pack_yes (s : ByteArray) (h1 : 1 ≤ s.size) (h2 : s.size ≤ 15) (w : World) :
    Calls Tryz.prog 146 #[.string s] w fun e w' => e = .returned (.tuple #[.agg #[.int .u64 (loS s : Nat), .int .u64 (hiS s : Nat)], .bool true]) ∧ Below w.heap.size w w' := pack_any s h1 h2 w
theorem name_yes (s : ByteArray) (h1 : 1 ≤ s.size) (h2 : s.size ≤ 15) (w : World) :
    Calls Tryz.prog 110 #[.agg #[.int .u64 (loS s : Nat), .int .u64 (hiS s : Nat)]] w fun e w' => e = .returned (.tuple #[.string s, .bool true]) ∧ Below w.heap.size w w' := by
  have h := name_core (loS s) (hiS s) s.size (loS s) (hiS s) true true (loS_lt s) (hiS_lt s h2) (byte_first s (by omega)) h2 (by rw [str_of]; exact pack_yes s h1 h2) (.inr ⟨rfl, by simp⟩) w
  rw [str_of] at h
  exact h
theorem name_no (x0 x1 : Nat) (h0 : x0 < 18446744073709551616) (h1 : x1 < 18446744073709551616) (hno : ∀ s : ByteArray, 1 ≤ s.size → s.size ≤ 15 → ¬ (loS s = x0 ∧ hiS s = x1)) (w : World) :
    Calls Tryz.prog 110 #[.agg #[.int .u64 x0, .int .u64 x1]] w fun e w' => e = .returned (.tuple #[.string ByteArray.empty, .bool false]) ∧ Below w.heap.size w w' := by
  obtain ⟨n, en⟩ : ∃ n, byteAt x0 x1 0 = n := ⟨_, rfl⟩
  rcases Nat.lt_or_ge 15 n with hb | hb
  · exact name_big x0 x1 n h0 h1 en hb w
  · have hz := str_size x0 x1 n
    rcases Nat.eq_zero_or_pos n with hn | hn
    · exact name_core x0 x1 n 0 0 false false h0 h1 en hb (pack_not _ (.inl (by rw [hz]; exact hn)) (by omega)) (.inl ⟨rfl, rfl⟩) w
    · have := hno (strOf x0 x1 n) (by omega) (by omega)
      exact name_core x0 x1 n _ _ true false h0 h1 en hb (pack_yes _ (by omega) (by omega)) (.inr ⟨rfl, by
        rw [Bool.and_eq_false_iff, beq_eq_false_iff_ne, beq_eq_false_iff_ne]
        rcases Classical.em (loS (strOf x0 x1 n) = x0) with h | h
        · right; intro h'; exact this ⟨h, by omega⟩
        · left; omega⟩) w
end Go.Proofs.YtmcnpenihoaajaaGreat
namespace Go.Proofs.YtmcnpenihoaajaaGreat
open Go.RowKit
theorem own_shape {wa : World} {base n : Nat} {v : Value} {xs : List Value} (h : wa.ownsRow base 5 1 v n xs) (hn : 1 ≤ n) : ∃ g cp, v = .slice (some ⟨g, 0, none⟩) n cp ∧ n ≤ cp ∧ cp ≤ maxLen := by
  rcases h.2 with ⟨_, h0⟩ | ⟨g, cp, cur, hv, _, _, hc, hm, _⟩
  · omega
  · exact ⟨g, cp, hv, hc, hm⟩
end Go.Proofs.YtmcnpenihoaajaaGreat
