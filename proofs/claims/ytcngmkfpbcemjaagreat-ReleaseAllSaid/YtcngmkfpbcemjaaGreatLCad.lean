/-
  Texts of one layer, one behind the other: memory, contracts of the functions, and what follows of them.
  Conditions: as each theorem says.
-/
import Derived.Test.YtcngmkfpbcemjaaGreatLCab
import Derived.Test.YtcngmkfpbcemjaaGreatLTab
import Derived.Test.YtcngmkfpbcemjaaGreatLTxc
import Derived.Test.YtcngmkfpbcemjaaGreatLTrg
import Derived.Test.YtcngmkfpbcemjaaGreatLWoa
import Derived.Test.YtcngmkfpbcemjaaGreatCarG
import Derived.Test.YtcngmkfpbcemjaaGreatLClb
set_option linter.unusedVariables false
set_option linter.unusedSimpArgs false
namespace Go.Proofs.YtcngmkfpbcemjaaGreat
open Go.RowKit
set_option maxRecDepth 100000
section
variable {w0 w w' : World} {T M : Nat} {R : Option Nat} {B D : Nat} {ws : List Nat} {l l' : List (Nat × Nat)} {off : Nat} {ls : List Nat}
theorem csize_any (h : Thinks w T M R B D ws l) (off : Nat) (ho : off < 18446744073709551616) :
    Calls Tryz.prog 44 #[.pointer (some ⟨T, 0, none⟩), .int .u64 off] w fun e w' => e = .returned (.int .u64 (tS (txSee ws l off) : Nat)) ∧ w.grownBy w' none := by
  have hld := txload_any h off ho
  have hlt := txSee_lt h.seg.words h.ok off
  obtain ⟨x, hx⟩ : ∃ x, txSee ws l off = x := ⟨_, rfl⟩
  rw [hx] at hld hlt ⊢
  have hun := fun w1 => tunpack_any x hlt w1
  obtain ⟨s, hs⟩ : ∃ s, tS x = s := ⟨_, rfl⟩
  rw [hs] at hun ⊢
  go_enter Tryz.func44, Tryz.ntmps44
  go_wp2_with (first | (go_at_call 23; (with_reducible refine hld.mono ?_); rintro e w1 ⟨rfl, hg1⟩) | (go_at_call 81; (with_reducible refine (hun _).mono ?_); rintro e w2 ⟨rfl, hg2⟩; have G2 := grown_trans hg1 hg2))
  go_ret
  exact ⟨rfl, grown_trans G2 (World.grownBy_alloc _ _ _)⟩
theorem pad_up {off a : Nat} (ha : alignP a) (ho : off % 16 = 0) (hr : (off + 32) % a ≠ 0) : (off + 32 + 48 + (a - 1)) / a * a = off + 32 + padN off a := by
  unfold padN
  rw [if_neg hr]
  rcases ha with rfl | rfl | rfl | rfl | rfl | rfl | rfl | rfl | rfl <;> split <;> omega
theorem cpad_any {off a : Nat} (ha : alignP a) (ho : off % 16 = 0) (hlt : off < 1000000000) (w : World) :
    Calls Tryz.prog 80 #[.int .u64 off, .int .u64 a] w fun e w' => e = .returned (.int .u64 (padN off a : Nat)) ∧ w = w' := by
  have hal := ha.le
  have hpl := padN_al ha ho
  have a0 : ¬ (a : Int) = 0 := by omega
  have e32 : IntKind.u64.wrap ((off : Int) + 32) = ((off + 32 : Nat) : Int) := by rw [IntKind.wrap_u64]; omega
  obtain ⟨r, er⟩ : ∃ r, (off + 32) % a = r := ⟨_, rfl⟩
  have e3 : ((off + 32 : Nat) : Int).tmod (a : Int) = (r : Nat) := by rw [Int.tmod_eq_emod_of_nonneg (by omega)]; omega
  obtain ⟨k, hk, ek⟩ : ∃ k, k < 64 ∧ a = 2 ^ k := by
    rcases ha with rfl | rfl | rfl | rfl | rfl | rfl | rfl | rfl | rfl
    · exact ⟨4, by decide, by decide⟩
    · exact ⟨5, by decide, by decide⟩
    · exact ⟨6, by decide, by decide⟩
    · exact ⟨7, by decide, by decide⟩
    · exact ⟨8, by decide, by decide⟩
    · exact ⟨9, by decide, by decide⟩
    · exact ⟨10, by decide, by decide⟩
    · exact ⟨11, by decide, by decide⟩
    · exact ⟨12, by decide, by decide⟩
  have hup := fun w => up_pow_low (off + 32 + 48) k a hk ek (by omega) w
  by_cases hr : r = 0
  · subst hr
    have hP : padN off a = 0 := by unfold padN; rw [if_pos er]
    rw [hP]
    obtain ⟨o32, eo⟩ : ∃ q, off + 32 = q := ⟨_, rfl⟩
    rw [eo] at e32 e3
    clear hup ek hk er ha hpl hP eo
    go_enter Tryz.func80, Tryz.ntmps80
    go_wp2
    go_ret
    exact ⟨rfl, rfl⟩
  · have hpu := pad_up ha ho (by rw [er]; exact hr)
    obtain ⟨P, hP⟩ : ∃ P, padN off a = P := ⟨_, rfl⟩
    rw [hP] at hpu hpl ⊢
    rw [hpu] at hup
    obtain ⟨o32, eo⟩ : ∃ q, off + 32 = q := ⟨_, rfl⟩
    rw [eo] at e32 e3 hup
    have e48 : IntKind.u64.wrap ((o32 : Int) + 48) = ((o32 + 48 : Nat) : Int) := by rw [IntKind.wrap_u64]; omega
    have eP : IntKind.u64.wrap (((o32 + P : Nat) : Int) - (o32 : Int)) = (P : Nat) := by rw [IntKind.wrap_u64]; omega
    obtain ⟨o48, eo8⟩ : ∃ q, o32 + 48 = q := ⟨_, rfl⟩
    obtain ⟨oP, eoP⟩ : ∃ q, o32 + P = q := ⟨_, rfl⟩
    rw [eo8] at hup e48
    rw [eoP] at hup eP
    have hr0 : ¬ (r : Int) = 0 := by omega
    have hrb : ((r : Int) == 0) = false := by simpa using hr
    clear ek hk er ha hpl hpu hP eo eo8 eoP hal ho
    go_enter Tryz.func80, Tryz.ntmps80
    go_wp2_with (first | (go_at_call 113; (with_reducible refine (hup _).mono ?_); rintro e w1 ⟨rfl, rfl⟩))
    go_ret
    exact ⟨rfl, rfl⟩
theorem see_off {off v : Nat} (hws : 8 * ws.length = 4800) (h8 : off % 8 = 0) (hlt : off < 4800) (x : Nat) : txSee ws (txStore ws l off v) x = if x = off then v else txSee ws l x :=
  see_stored ⟨h8, by omega⟩ x
theorem hwrite (h : Txs w0 w T M R B D ws l) (hws : 8 * ws.length = 4800) {s : Nat} {u : Bool} {o : Int} (hm : mayP s u o) (hi : inP (txSee ws l 16) off s) (hE : txSee ws l 16 ≤ 4800) :
    Calls Tryz.prog 36 #[.pointer (some ⟨T, 0, none⟩), .int .u64 off, .agg #[.int .u64 s, .bool u, .int .i64 o]] w fun e w' => e = .returned (.int .i64 0) ∧ ∃ R' l', Txs w0 w' T M R' B D ws l' ∧ (∀ x, txSee ws l' x = if x = off ∨ x = off + s - 8 then packN s u o else txSee ws l x) ∧ Keep w R w' R' := by
  have hb := may_bounds hm
  unfold inP at hi
  refine (twrite_yes h.tx off s u o (by omega) hm hi).mono ?_
  rintro e w' ⟨rfl, ht⟩
  obtain ⟨R', h1, h2⟩ := step_keep h ht
  refine ⟨rfl, R', _, h1, fun x => ?_, h2⟩
  rw [see_off hws (by omega) (by omega), see_off hws (by omega) (by omega)]
  by_cases e1 : x = off + s - 8
  · rw [if_pos e1, if_pos (.inr e1)]
  · by_cases e2 : x = off
    · rw [if_neg e1, if_pos e2, if_pos (.inl e2)]
    · rw [if_neg e1, if_neg e2, if_neg (fun e => e.elim e2 e1)]
theorem hdelete (h : Txs w0 w T M R B D ws l) (hws : 8 * ws.length = 4800) (hH : Hung (txSee ws l) ls) (ho : off ∈ ls) :
    Calls Tryz.prog 45 #[.pointer (some ⟨T, 0, none⟩), .int .u64 off] w fun e w' => e = .returned (.bool true) ∧ ∃ R' l', Txs w0 w' T M R' B D ws l' ∧ Hung (txSee ws l') (ls.filter fun a => decide (a ≠ off)) ∧ Kept ls (txSee ws l) (txSee ws l') ∧ Keep w R w' R' := by
  have hG := hH.lone.free
  have hI := hH.is hG (fun x hx => upL_mem.2 hx)
  have hB : Bed ws l (fun x => tS (txSee ws l x)) (upL ls) := ⟨hG, hws, fun _ _ => rfl⟩
  refine (tdelete_yes h.tx hB hI (upL_mem.2 ho) ho).mono ?_
  rintro e w' ⟨rfl, l', ht, hB', hI', hK⟩
  obtain ⟨R', h1, h2⟩ := step_keep h ht
  exact ⟨rfl, R', l', h1, hI'.hung fun x hx => hB'.keys x (hI'.sub x hx), fun q a b => hK q a fun x hx => b x (upL_mem.1 hx), h2⟩
theorem hinsert (h : Txs w0 w T M R B D ws l) (hws : 8 * ws.length = 4800) (hH : Hung (txSee ws l) ls) (hl : Lone (ls ++ [off])) :
    Calls Tryz.prog 74 #[.pointer (some ⟨T, 0, none⟩), .int .u64 off] w fun e w' => e = .returned (.tuple #[]) ∧ ∃ R' l', Txs w0 w' T M R' B D ws l' ∧ Hung (txSee ws l') (ls ++ [off]) ∧ Kept (ls ++ [off]) (txSee ws l) (txSee ws l') ∧ Keep w R w' R' := by
  have hG := hl.free
  have hI := hH.is hG (fun x hx => upL_mem.2 (by simp [hx]))
  have hB : Bed ws l (fun x => tS (txSee ws l x)) (upL (ls ++ [off])) := ⟨hG, hws, fun _ _ => rfl⟩
  have hn : off ∉ ls := fun hm => (List.nodup_append.1 hl.nodup).2.2 off hm off (by simp) rfl
  refine (tinsert_any h.tx hB hI (upL_mem.2 (by simp)) hn).mono ?_
  rintro e w' ⟨rfl, l', ht, hB', hI', hK⟩
  obtain ⟨R', h1, h2⟩ := step_keep h ht
  exact ⟨rfl, R', l', h1, hI'.hung fun x hx => hB'.keys x (hI'.sub x hx), fun q a b => hK q a fun x hx => b x (upL_mem.1 hx), h2⟩
theorem hspare (h : Txs w0 w T M R B D ws l) (hws : 8 * ws.length = 4800) (hH : Hung (txSee ws l) ls) {s : Nat} (hm : mayP s false 0) (hi : inP (txSee ws l 16) off s) (hE : txSee ws l 16 ≤ 4800) (hf : ∀ y ∈ ls, y + 48 ≤ off ∨ off + s ≤ y) :
    Calls Tryz.prog 46 #[.pointer (some ⟨T, 0, none⟩), .int .u64 off, .int .u64 s] w fun e w' => e = .returned (.tuple #[]) ∧ ∃ R' l', Txs w0 w' T M R' B D ws l' ∧ Hung (txSee ws l') (ls ++ [off]) ∧ Stay (txSee ws l) (txSee ws l') off (off + s) ls ∧ (txSee ws l' off = packN s false 0 ∧ txSee ws l' (off + s - 8) = packN s false 0) ∧ Keep w R w' R' := by
  have hb := may_bounds hm
  have hi' := hi
  unfold inP at hi'
  have hw1 := hwrite h hws hm hi hE
  have hl : Lone (ls ++ [off]) := hH.lone.snoc (by omega) fun y hy => by have := hf y hy; omega
  have hon := hH.lone.on
  have hins : ∀ (w1 : World) (R1 : Option Nat) (l1 : List (Nat × Nat)), Txs w0 w1 T M R1 B D ws l1 → (∀ x, txSee ws l1 x = if x = off ∨ x = off + s - 8 then packN s false 0 else txSee ws l x) → Calls Tryz.prog 74 #[.pointer (some ⟨T, 0, none⟩), .int .u64 off] w1 fun e w' => e = .returned (.tuple #[]) ∧ ∃ R' l', Txs w0 w' T M R' B D ws l' ∧ Hung (txSee ws l') (ls ++ [off]) ∧ Stay (txSee ws l) (txSee ws l') off (off + s) ls ∧ (txSee ws l' off = packN s false 0 ∧ txSee ws l' (off + s - 8) = packN s false 0) ∧ Keep w1 R1 w' R' := by
    intro w1 R1 l1 X1 e1
    have hH1 : Hung (txSee ws l1) ls := hH.congr (by rw [e1, if_neg (by omega)]) fun x hx => by
      have := hf x hx
      have := hon x hx
      rw [e1, e1, e1, if_neg (by omega), if_neg (by omega), if_neg (by omega)]
      exact ⟨rfl, rfl, rfl⟩
    refine (hinsert X1 hws hH1 hl).mono ?_
    rintro e w' ⟨rfl, R', l', X', hH', hK, K'⟩
    have hfar : ∀ y ∈ ls ++ [off], y = off ∨ y + 48 ≤ off ∨ off + s ≤ y := fun y hy => by
      rcases List.mem_append.1 hy with hy | hy
      · exact .inr (hf y hy)
      · exact .inl (List.mem_singleton.1 hy)
    refine ⟨rfl, R', l', X', hH', ?_, ⟨?_, ?_⟩, K'⟩
    · refine Stay.trans (g := txSee ws l1) (fun x a b c => by rw [e1, if_neg (by omega)]) ?_
      refine (Stay.of_kept hK).less fun y hy => ?_
      rcases List.mem_append.1 hy with hy | hy
      · exact .inl hy
      · rw [List.mem_singleton.1 hy]; exact .inr (by omega)
    · rw [hK off (by omega) (fun y hy => by have := hfar y hy; omega), e1, if_pos (.inl rfl)]
    · rw [hK _ (by omega) (fun y hy => by have := hfar y hy; omega), e1, if_pos (.inr rfl)]
  have HINS := Lib.hid hins
  clear hins hH hm hi hE hf hb hi' hl hon
  go_enter Tryz.func46, Tryz.ntmps46
  go_wp2_with (first | (go_at_call 36; (with_reducible refine hw1.mono ?_); rintro e w1 ⟨rfl, R1, l1, X1, e1, K1⟩; have hin := HINS.out w1 R1 l1 X1 e1) | (go_at_call 74; (with_reducible refine hin.mono ?_); rintro e w2 ⟨rfl, R2, l2, X2, hH2, hS2, hT2, K2⟩))
  go_end0
  exact ⟨rfl, R2, l2, X2, hH2, hS2, hT2, K1.trans K2⟩
def FillF (f g : Nat → Nat) (off n k : Nat) : Prop := ∀ x, g x = if x = off + 8 then n else if off + 32 ≤ x ∧ x < off + 32 + 8 * k ∧ x % 8 = 0 then 0 else f x
theorem FillF.next {f g g' : Nat → Nat} {n k : Nat} (h : FillF f g off n k) (h8 : off % 8 = 0) (hg : ∀ x, g' x = if x = off + 32 + 8 * k then 0 else g x) : FillF f g' off n (k + 1) := fun x => by
  rw [hg, h x]
  by_cases e1 : x = off + 32 + 8 * k
  · rw [if_pos e1, if_neg (by omega), if_pos (by omega)]
  · rw [if_neg e1]
    by_cases e2 : x = off + 8
    · rw [if_pos e2, if_pos e2]
    · rw [if_neg e2, if_neg e2]
      by_cases e3 : off + 32 ≤ x ∧ x < off + 32 + 8 * k ∧ x % 8 = 0
      · rw [if_pos e3, if_pos (by omega)]
      · rw [if_neg e3, if_neg (by omega)]
set_option maxHeartbeats 4000000 in
theorem hfill (h : Txs w0 w T M R B D ws l) (hws : 8 * ws.length = 4800) {n : Nat} (h8 : off % 8 = 0) (hlt : off + 32 + n ≤ 4792) :
    Calls Tryz.prog 47 #[.pointer (some ⟨T, 0, none⟩), .int .u64 off, .int .u64 n] w fun e w' => e = .returned (.tuple #[]) ∧ ∃ R' l', Txs w0 w' T M R' B D ws l' ∧ FillF (txSee ws l) (txSee ws l') off n ((n + 7) / 8) ∧ Keep w R w' R' := by
  have hst := txstore_any h.tx (off + 8) n (by omega) (by omega)
  have hwd := fun w => words_any n (by omega) w
  obtain ⟨m, em⟩ : ∃ m, (n + 7) / 8 = m := ⟨_, rfl⟩
  rw [em] at hwd ⊢
  have hlim : off + 32 + 8 * m ≤ 4800 := by omega
  have e8 : IntKind.u64.wrap ((off : Int) + 8) = ((off + 8 : Nat) : Int) := by rw [IntKind.wrap_u64]; omega
  have e32 : IntKind.u64.wrap ((off : Int) + 32) = ((off + 32 : Nat) : Int) := by rw [IntKind.wrap_u64]; omega
  have hF0 : ∀ x, txSee ws (txStore ws l (off + 8) n) x = if x = off + 8 then n else txSee ws l x := fun x => see_off hws (by omega) (by omega) x
  have hF1 : FillF (txSee ws l) (txSee ws (txStore ws l (off + 8) n)) off n 0 := fun x => by
    rw [hF0]
    by_cases e : x = off + 8
    · rw [if_pos e, if_pos e]
    · rw [if_neg e, if_neg e, if_neg (by omega)]
  obtain ⟨f, hf⟩ : ∃ f, txSee ws l = f := ⟨_, rfl⟩
  rw [hf] at hF1 ⊢
  obtain ⟨l1, hl1⟩ : ∃ l1, txStore ws l (off + 8) n = l1 := ⟨_, rfl⟩
  rw [hl1] at hst hF1
  obtain ⟨o8, eo8⟩ : ∃ q, off + 8 = q := ⟨_, rfl⟩
  rw [eo8] at hst e8
  have HF1 := Lib.hid hF1
  have HX := Lib.hid h
  obtain ⟨o32, eo32⟩ : ∃ q, off + 32 = q := ⟨_, rfl⟩
  rw [eo32] at e32
  clear hF0 hF1 hl1 hf h
  go_enter Tryz.func47, Tryz.ntmps47
  go_wp2_with (first | (go_at_call 58; (with_reducible refine hst.mono ?_); rintro e w1 ⟨rfl, ht1⟩) | (go_at_call 84; (with_reducible refine (hwd _).mono ?_); rintro e w2 ⟨rfl, rfl⟩))
  obtain ⟨R1, X1, K1⟩ := step_keep HX.out ht1
  clear ht1 hst hwd
  go_loopw [14] (fun i wr => ∃ k : Nat, k ≤ m ∧ i = .int .u64 (k : Nat) ∧ ∃ Rk lk, Txs w0 wr T M Rk B D ws lk ∧ FillF f (txSee ws lk) off n k ∧ Keep w R wr Rk) (fun i _ => m - (intOf i).toNat)
  case atStart => exact ⟨0, Nat.zero_le _, rfl, R1, l1, X1, HF1.out, K1⟩
  case round =>
    obtain ⟨k, hk, rfl, Rk, lk, Xk, Fk, Kk⟩ := hrel
    clear X1 K1
    by_cases hkm : k < m
    · have hs : Calls Tryz.prog 58 #[.pointer (some ⟨T, 0, none⟩), .int .u64 (off + 32 + 8 * k : Nat), .int .u64 0] wr _ := txstore_any Xk.tx (off + 32 + 8 * k) 0 (by omega) (by decide)
      have hsee : ∀ x, txSee ws (txStore ws lk (off + 32 + 8 * k) 0) x = if x = off + 32 + 8 * k then 0 else txSee ws lk x := fun x => see_off hws (by omega) (by omega) x
      have hF2 := Fk.next h8 hsee
      obtain ⟨l2, hl2⟩ : ∃ l2, txStore ws lk (off + 32 + 8 * k) 0 = l2 := ⟨_, rfl⟩
      rw [hl2] at hs hF2
      have e1 : IntKind.u64.wrap ((k : Int) * 8) = ((8 * k : Nat) : Int) := by rw [IntKind.wrap_u64]; omega
      have e2 : IntKind.u64.wrap ((o32 : Int) + ((8 * k : Nat) : Int)) = ((off + 32 + 8 * k : Nat) : Int) := by rw [IntKind.wrap_u64]; omega
      obtain ⟨k8, ek8⟩ : ∃ q, 8 * k = q := ⟨_, rfl⟩
      rw [ek8] at e1
      have e2' : IntKind.u64.wrap ((o32 : Int) + (k8 : Int)) = ((off + 32 + 8 * k : Nat) : Int) := by rw [← ek8]; exact e2
      obtain ⟨ok, eok⟩ : ∃ q, off + 32 + 8 * k = q := ⟨_, rfl⟩
      rw [eok] at hs e2'
      have HF2 := Lib.hid hF2
      have HXk := Lib.hid Xk
      have HKk := Lib.hid Kk
      have ek1 : IntKind.u64.wrap ((k : Int) + 1) = ((k + 1 : Nat) : Int) := by rw [IntKind.wrap_u64]; omega
      have hms : m - (k + 1) < m - k := by omega
      clear hsee hF2 hl2 e2 ek8 eok Xk Fk Kk
      go_wp2_with (first | (go_at_call 58; (with_reducible refine hs.mono ?_); rintro e w3 ⟨rfl, ht3⟩))
      obtain ⟨R3, X3, K3⟩ := step_keep HXk.out ht3
      go_roundw
      case rel => exact ⟨k + 1, by omega, by go_num, R3, l2, X3, HF2.out, HKk.out.trans K3⟩
      case measure => simp [intOf]; omega
    · obtain rfl : k = m := by omega
      have hkk : ¬ (k : Int) < (k : Int) := by omega
      go_wp2
      go_end0
      exact ⟨rfl, Rk, lk, Xk, Fk, Kk⟩
end
end Go.Proofs.YtcngmkfpbcemjaaGreat
namespace Go.Proofs.YtcngmkfpbcemjaaGreat
open Go.RowKit
set_option maxRecDepth 100000
theorem gets_take {l : List Blk} {n i : Nat} (h : i < n) : (l.take n).getD i default = l.getD i default := by
  rw [List.getD_eq_getElem?_getD, List.getElem?_take, if_pos h, ← List.getD_eq_getElem?_getD]
theorem gets_drop {l : List Blk} {n i : Nat} : (l.drop n).getD i default = l.getD (n + i) default := by
  rw [List.getD_eq_getElem?_getD, List.getElem?_drop, ← List.getD_eq_getElem?_getD]
theorem BlksAt.take {w : World} {la : Option Addr} {l : List Blk} (h : BlksAt w la l) (n : Nat) : BlksAt w la (l.take n) where
  cells := fun hn => by
    rw [List.length_take] at hn
    obtain ⟨b, off, h1, h2, h3⟩ := h.cells (by omega)
    refine ⟨b, off, h1, h2, fun i hi => ?_⟩
    rw [List.length_take] at hi
    have := h3 i (by omega)
    unfold gO gS gU gW gN at this ⊢
    rw [gets_take (by omega)]
    exact this
theorem BlksAt.drop {w : World} {b off : Nat} {l : List Blk} (h : BlksAt w (some ⟨b, off, none⟩) l) (n : Nat) : BlksAt w (some ⟨b, off + n * 5, none⟩) (l.drop n) where
  cells := fun hn => by
    rw [List.length_drop] at hn
    obtain ⟨b', off', h1, h2, h3⟩ := h.cells (by omega)
    injection h1 with h1
    injection h1 with e1 e2
    subst e1 e2
    refine ⟨b, off + n * 5, rfl, h2, fun i hi => ?_⟩
    rw [List.length_drop] at hi
    have := h3 (n + i) (by omega)
    unfold gO gS gU gW gN at this ⊢
    rw [gets_drop, show off + n * 5 + i * 5 = off + (n + i) * 5 by omega]
    exact this
theorem cellsB_app (a b : List Blk) : cellsB (a ++ b) = cellsB a ++ cellsB b := by simp [cellsB, List.flatMap_append]
theorem run_append_empty {P : Program} {w : World} (base : Nat) (t ty e : TypeId) (i : TypeInfo) (size c : Nat) (ht : P.underlying t = some (.slice e)) (hi : P.info? e = some i)
    (v : Value) (n : Nat) (xs : List Value) (hown : w.ownsRow base e size v n xs) :
    (Builtin.append_ #[t, t] ty #[v, .slice none 0 c]).run P w = .ok v w := by
  rcases hown.2 with ⟨rfl, rfl⟩ | ⟨g, cap, cur, rfl, _, _, hnc, _⟩
  · simp [Builtin.append_, run_underlying ht, sizeOf, typeInfo, hi, Builtin.lenOf, Builtin.firstCells]
  · simp [Builtin.append_, run_underlying ht, sizeOf, typeInfo, hi, Builtin.lenOf, Builtin.firstCells, hnc, storeCells]
theorem wpList_append_blks {w2 : World} {base n m c : Nat} {v : Value} {l k : List Blk} {la : Option Addr} (hown : OwnB w2 base 79 v l) (hp : BlksAt w2 la k) (hn : l.length = n) (hk : k.length = m) (hm : n + m ≤ 1000000) (hbase : base ≤ w2.heap.size)
    {ops : Array Oper} {rest : List Oper} {o : Oper} {a : Act} {Q : Exit → Act → World → Prop} (hgd : o.guard = none) (s x : Operand)
    (ho : o.op = .call { callee := .builtin .append, args := #[s, x], argTypes := #[26, 26] })
    (hs : a.eval s = v) (hx : a.eval x = .slice la m c)
    (h : ∀ v' w', OwnB w' base 79 v' (l ++ k) → w2.grownBy w' v.ownBlock → (v'.ownBlock = v.ownBlock ∨ v'.ownBlock = some w2.heap.size) → wpList Tryz.prog ops Q rest (a.put o.dst v') w') :
    wpList Tryz.prog ops Q (o :: rest) a w2 := by
  subst hn hk
  obtain ⟨i0, hi, hz0, hz1, hz2⟩ := info_parts info_rblk
  rcases la with _ | ad
  · have hm0 : k = [] := by
      cases k with
      | nil => rfl
      | cons b r =>
        obtain ⟨_, _, hb, _⟩ := hp.cells (by simp)
        cases hb
    subst hm0
    refine wpList_plain hgd fun K hK => ?_
    have hrun := run_append_empty (P := Tryz.prog) (w := w2) base 26 o.type 79 i0 5 c Tryz.underlying26 hi v l.length (cellsB l) hown
    unfold Oper.wp
    simp only [List.length_nil] at hx
    simp [execOp, ho, resolve, invoke, builtin, hs, hx, hrun, Result.andThen]
    exact hK _ _ (h v w2 (by simpa using hown) (grown_refl _ _) (.inl rfl))
  · refine wpList_append_own_at _ hgd s x 26 ho base 79 i0 (.agg #[.int .u64 0, .int .u64 0, .bool false, .int .i64 0, .int .u64 0]) 5 40 Tryz.underlying26 hi hz0 hz1 hz2 rfl (by decide) v l.length (cellsB l) hs hown ad k.length c (cellsB k) hx (cellsB_len k) ?_ (cellsB_one k) (by unfold maxLen; omega) (by omega) hbase fun v' w' h1 h2 _ h4 => h v' w' (by unfold OwnB; rw [cellsB_app, List.length_append]; exact h1) h2 h4
    intro j u hj
    have hjm : j < k.length * 5 := by
      rcases Nat.lt_or_ge j (k.length * 5) with h' | h'
      · exact h'
      · rw [List.getElem?_eq_none (by rw [cellsB_len]; exact h')] at hj; cases hj
    obtain ⟨b, off, hb, _, hcs⟩ := hp.cells (by omega)
    injection hb with hb
    subst hb
    have hadd : (⟨b, off, none⟩ : Addr).add j = ⟨b, off + j, none⟩ := by unfold Addr.add; split <;> simp_all
    rw [hadd]
    obtain ⟨c0, c1, c2, c3, c4⟩ := hcs (j / 5) (by omega)
    have hat := cellsB_at k (j / 5) (j % 5) (by omega) (Nat.mod_lt _ (by decide))
    rw [show j / 5 * 5 + j % 5 = j by omega] at hat
    rw [hat] at hj
    unfold gO at c0
    unfold gS at c1
    unfold gU at c2
    unfold gW at c3
    unfold gN at c4
    have h5 := Nat.mod_lt j (show 0 < 5 by decide)
    rcases (show j % 5 = 0 ∨ j % 5 = 1 ∨ j % 5 = 2 ∨ j % 5 = 3 ∨ j % 5 = 4 by omega) with e | e | e | e | e <;> rw [e] at hj <;> simp [Blk.row] at hj
    · rw [show off + j / 5 * 5 = off + j by omega] at c0; rw [c0, ← hj]; rfl
    · rw [show off + j / 5 * 5 + 1 = off + j by omega] at c1; rw [c1, ← hj]; rfl
    · rw [show off + j / 5 * 5 + 2 = off + j by omega] at c2; rw [c2, ← hj]; rfl
    · rw [show off + j / 5 * 5 + 3 = off + j by omega] at c3; rw [c3, ← hj]; rfl
    · rw [show off + j / 5 * 5 + 4 = off + j by omega] at c4; rw [c4, ← hj]; rfl
theorem blk_at {V V' : World} {b : Nat} (k : Blk) (hb : V.heap.size = b) (hg : (V.alloc (.cells k.row.toArray 79)).grownBy V' none) : BlksAt V' (some ⟨b, 0, none⟩) [k] := by
  subst hb
  have h : V'.heap[V.heap.size]? = some (.cells k.row.toArray 79 (0, 0)) := (hg.block _ (by simp) (by simp)).trans (heap_alloc_new' V _)
  refine ⟨fun _ => ⟨_, 0, rfl, lt_of_block h, fun i hi => ?_⟩⟩
  obtain rfl : i = 0 := by simpa using hi
  unfold World.cell?
  simp only [h]
  exact ⟨rfl, rfl, rfl, rfl, rfl⟩
theorem ownB_none {V : World} {base b : Nat} (hb : V.heap.size = b) (h : base ≤ b) : OwnB (V.alloc (.cells #[] 79)) base 79 (.slice (some ⟨b, 0, none⟩) 0 0) [] := by
  subst hb
  exact World.ownsRow_lit (base := base) (e := 79) (size := 5) V #[] 0 h (by decide) rfl
structure TkB (w0 : World) (base hb rb bb : Nat) (hcs rcs bcs : Array Value) (W : World) (v : Value) (l : List Blk) : Prop where
  own : OwnB W base 79 v l
  hbx : W.heap[hb]? = some (.cells hcs 30 (0, 0))
  rbx : W.heap[rb]? = some (.cells rcs 30 (0, 0))
  bbx : W.heap[bb]? = some (.cells bcs 79 (0, 0))
  since : w0.grownBy W none
  lo : hb < base ∧ rb < base ∧ bb < base ∧ w0.heap.size ≤ base ∧ base ≤ W.heap.size
structure TkU (w0 : World) (base hb rb bb ub : Nat) (hcs rcs bcs ucs : Array Value) (W : World) (v : Value) (l : List Blk) : Prop where
  tk : TkB w0 base hb rb bb hcs rcs bcs W v l
  ubx : W.heap[ub]? = some (.cells ucs 79 (0, 0))
  no : v.ownBlock ≠ some ub
section
variable {w0 W W' : World} {base hb rb bb ub : Nat} {hcs rcs bcs ucs : Array Value} {v v' : Value} {l k : List Blk}
theorem TkB.size (h : TkB w0 base hb rb bb hcs rcs bcs W v l) : base ≤ W.heap.size := h.lo.2.2.2.2
theorem TkB.later (h : TkB w0 base hb rb bb hcs rcs bcs W v l) (hg : W.grownBy W' none) : TkB w0 base hb rb bb hcs rcs bcs W' v l :=
  ⟨h.own.later hg, (hg.block _ (lt_of_block h.hbx) (by simp)).trans h.hbx, (hg.block _ (lt_of_block h.rbx) (by simp)).trans h.rbx, (hg.block _ (lt_of_block h.bbx) (by simp)).trans h.bbx, grown_trans h.since hg, h.lo.1, h.lo.2.1, h.lo.2.2.1, h.lo.2.2.2.1, Nat.le_trans h.size hg.size⟩
theorem TkB.nr (h : TkB w0 base hb rb bb hcs rcs bcs W v l) : ¬ W.heap.size = rb ∧ ¬ rb = W.heap.size ∧ ¬ W.heap.size = hb ∧ ¬ hb = W.heap.size := by
  have h1 := h.size
  have h2 := h.lo
  omega
theorem TkB.far (h : TkB w0 base hb rb bb hcs rcs bcs W v l) {q : Nat} (hq : q < base) : some q ≠ v.ownBlock := fun e => by
  have := (World.ownsRow.lt h.own q e.symm).1
  omega
theorem TkB.app (h : TkB w0 base hb rb bb hcs rcs bcs W v l) (ho : OwnB W' base 79 v' (l ++ k)) (hg : W.grownBy W' v.ownBlock) : TkB w0 base hb rb bb hcs rcs bcs W' v' (l ++ k) :=
  ⟨ho, (hg.block _ (lt_of_block h.hbx) (h.far h.lo.1)).trans h.hbx, (hg.block _ (lt_of_block h.rbx) (h.far h.lo.2.1)).trans h.rbx, (hg.block _ (lt_of_block h.bbx) (h.far h.lo.2.2.1)).trans h.bbx, grown_step h.since hg (fun i hi => .inl (Nat.le_trans h.lo.2.2.2.1 (World.ownsRow.lt h.own i hi).1)), h.lo.1, h.lo.2.1, h.lo.2.2.1, h.lo.2.2.2.1, Nat.le_trans h.size hg.size⟩
theorem TkB.used (h : TkB w0 base hb rb bb hcs rcs bcs W v l) : TkU w0 base hb rb bb W.heap.size hcs rcs bcs ucs (W.alloc (.cells ucs 79)) v l :=
  ⟨h.later (World.grownBy_alloc _ _ _), heap_alloc_new' _ _, fun e => by
    have := (World.ownsRow.lt h.own _ e).2
    omega⟩
theorem TkU.later (h : TkU w0 base hb rb bb ub hcs rcs bcs ucs W v l) (hg : W.grownBy W' none) : TkU w0 base hb rb bb ub hcs rcs bcs ucs W' v l :=
  ⟨h.tk.later hg, (hg.block _ (lt_of_block h.ubx) (by simp)).trans h.ubx, h.no⟩
theorem TkU.app (h : TkU w0 base hb rb bb ub hcs rcs bcs ucs W v l) (ho : OwnB W' base 79 v' (l ++ k)) (hg : W.grownBy W' v.ownBlock) (hv : v'.ownBlock = v.ownBlock ∨ v'.ownBlock = some W.heap.size) : TkU w0 base hb rb bb ub hcs rcs bcs ucs W' v' (l ++ k) :=
  ⟨h.tk.app ho hg, (hg.block _ (lt_of_block h.ubx) (fun e => h.no e.symm)).trans h.ubx, fun e => by
    rcases hv with h1 | h1
    · exact h.no (h1.symm.trans e)
    · rw [h1] at e
      injection e with e
      have := lt_of_block h.ubx
      omega⟩
theorem tk_start {w1 : World} (hg : w0.grownBy w1 none) (hx : w1.heap[hb]? = some (.cells hcs 30 (0, 0))) (hr : w1.heap[rb]? = some (.cells rcs 30 (0, 0))) : TkB w0 (w1.heap.size + 1) hb rb w1.heap.size hcs rcs bcs ((w1.alloc (.cells bcs 79)).alloc (.cells #[] 79)) (.slice (some ⟨w1.heap.size + 1, 0, none⟩) 0 0) [] :=
  ⟨ownB_none (by simp) (Nat.le_refl _), (Below.heap_alloc _ _ _ (by have := lt_of_block hx; simp; omega)).trans ((Below.heap_alloc _ _ _ (lt_of_block hx)).trans hx), (Below.heap_alloc _ _ _ (by have := lt_of_block hr; simp; omega)).trans ((Below.heap_alloc _ _ _ (lt_of_block hr)).trans hr), (Below.heap_alloc _ _ _ (by simp)).trans (heap_alloc_new' _ _), grown_trans hg (grown_trans (World.grownBy_alloc _ _ _) (World.grownBy_alloc _ _ _)), Nat.lt_succ_of_lt (lt_of_block hx), Nat.lt_succ_of_lt (lt_of_block hr), Nat.lt_succ_self _, Nat.le_succ_of_le hg.size, by simp⟩
theorem ten_cells {w : World} {b : Nat} {x0 x1 x2 x3 x4 x5 x6 x7 x8 x9 : Value} {t : TypeId} (h : w.heap[b]? = some (.cells #[x0, x1, x2, x3, x4, x5, x6, x7, x8, x9] t (0, 0))) : (w.cell? ⟨b, 0, none⟩ = some x0 ∧ w.cell? ⟨b, 1, none⟩ = some x1 ∧ w.cell? ⟨b, 2, none⟩ = some x2 ∧ w.cell? ⟨b, 3, none⟩ = some x3 ∧ w.cell? ⟨b, 4, none⟩ = some x4 ∧ w.cell? ⟨b, 5, none⟩ = some x5 ∧ w.cell? ⟨b, 6, none⟩ = some x6 ∧ w.cell? ⟨b, 7, none⟩ = some x7 ∧ w.cell? ⟨b, 8, none⟩ = some x8 ∧ w.cell? ⟨b, 9, none⟩ = some x9) ∧ ∀ i, i < 10 → w.frozen? ⟨b, i, none⟩ = false := by
  refine ⟨⟨by simp [World.cell?, h], by simp [World.cell?, h], by simp [World.cell?, h], by simp [World.cell?, h], by simp [World.cell?, h], by simp [World.cell?, h], by simp [World.cell?, h], by simp [World.cell?, h], by simp [World.cell?, h], by simp [World.cell?, h]⟩, fun i _ => by simp [World.frozen?, h]⟩
theorem ten_put {w : World} {b : Nat} {x0 x1 x2 x3 x4 x5 x6 x7 x8 x9 y0 y1 y2 y3 y4 y5 y6 y7 y8 y9 : Value} {t : TypeId} (h : w.heap[b]? = some (.cells #[x0, x1, x2, x3, x4, x5, x6, x7, x8, x9] t (0, 0))) : ((((((((((w.setCell ⟨b, 0, none⟩ y0).setCell ⟨b, 1, none⟩ y1).setCell ⟨b, 2, none⟩ y2).setCell ⟨b, 3, none⟩ y3).setCell ⟨b, 4, none⟩ y4).setCell ⟨b, 5, none⟩ y5).setCell ⟨b, 6, none⟩ y6).setCell ⟨b, 7, none⟩ y7).setCell ⟨b, 8, none⟩ y8).setCell ⟨b, 9, none⟩ y9).heap[b]? = some (.cells #[y0, y1, y2, y3, y4, y5, y6, y7, y8, y9] t (0, 0)) ∧ w.grownBy ((((((((((w.setCell ⟨b, 0, none⟩ y0).setCell ⟨b, 1, none⟩ y1).setCell ⟨b, 2, none⟩ y2).setCell ⟨b, 3, none⟩ y3).setCell ⟨b, 4, none⟩ y4).setCell ⟨b, 5, none⟩ y5).setCell ⟨b, 6, none⟩ y6).setCell ⟨b, 7, none⟩ y7).setCell ⟨b, 8, none⟩ y8).setCell ⟨b, 9, none⟩ y9) (some b) := by
  have h0 : (w.setCell ⟨b, 0, none⟩ y0).heap[b]? = some (.cells #[y0, x1, x2, x3, x4, x5, x6, x7, x8, x9] t (0, 0)) := by rw [heap_setCell_same h y0]; rfl
  have h1 : ((w.setCell ⟨b, 0, none⟩ y0).setCell ⟨b, 1, none⟩ y1).heap[b]? = some (.cells #[y0, y1, x2, x3, x4, x5, x6, x7, x8, x9] t (0, 0)) := by rw [heap_setCell_same h0 y1]; rfl
  have h2 : (((w.setCell ⟨b, 0, none⟩ y0).setCell ⟨b, 1, none⟩ y1).setCell ⟨b, 2, none⟩ y2).heap[b]? = some (.cells #[y0, y1, y2, x3, x4, x5, x6, x7, x8, x9] t (0, 0)) := by rw [heap_setCell_same h1 y2]; rfl
  have h3 : ((((w.setCell ⟨b, 0, none⟩ y0).setCell ⟨b, 1, none⟩ y1).setCell ⟨b, 2, none⟩ y2).setCell ⟨b, 3, none⟩ y3).heap[b]? = some (.cells #[y0, y1, y2, y3, x4, x5, x6, x7, x8, x9] t (0, 0)) := by rw [heap_setCell_same h2 y3]; rfl
  have h4 : (((((w.setCell ⟨b, 0, none⟩ y0).setCell ⟨b, 1, none⟩ y1).setCell ⟨b, 2, none⟩ y2).setCell ⟨b, 3, none⟩ y3).setCell ⟨b, 4, none⟩ y4).heap[b]? = some (.cells #[y0, y1, y2, y3, y4, x5, x6, x7, x8, x9] t (0, 0)) := by rw [heap_setCell_same h3 y4]; rfl
  have h5 : ((((((w.setCell ⟨b, 0, none⟩ y0).setCell ⟨b, 1, none⟩ y1).setCell ⟨b, 2, none⟩ y2).setCell ⟨b, 3, none⟩ y3).setCell ⟨b, 4, none⟩ y4).setCell ⟨b, 5, none⟩ y5).heap[b]? = some (.cells #[y0, y1, y2, y3, y4, y5, x6, x7, x8, x9] t (0, 0)) := by rw [heap_setCell_same h4 y5]; rfl
  have h6 : (((((((w.setCell ⟨b, 0, none⟩ y0).setCell ⟨b, 1, none⟩ y1).setCell ⟨b, 2, none⟩ y2).setCell ⟨b, 3, none⟩ y3).setCell ⟨b, 4, none⟩ y4).setCell ⟨b, 5, none⟩ y5).setCell ⟨b, 6, none⟩ y6).heap[b]? = some (.cells #[y0, y1, y2, y3, y4, y5, y6, x7, x8, x9] t (0, 0)) := by rw [heap_setCell_same h5 y6]; rfl
  have h7 : ((((((((w.setCell ⟨b, 0, none⟩ y0).setCell ⟨b, 1, none⟩ y1).setCell ⟨b, 2, none⟩ y2).setCell ⟨b, 3, none⟩ y3).setCell ⟨b, 4, none⟩ y4).setCell ⟨b, 5, none⟩ y5).setCell ⟨b, 6, none⟩ y6).setCell ⟨b, 7, none⟩ y7).heap[b]? = some (.cells #[y0, y1, y2, y3, y4, y5, y6, y7, x8, x9] t (0, 0)) := by rw [heap_setCell_same h6 y7]; rfl
  have h8 : (((((((((w.setCell ⟨b, 0, none⟩ y0).setCell ⟨b, 1, none⟩ y1).setCell ⟨b, 2, none⟩ y2).setCell ⟨b, 3, none⟩ y3).setCell ⟨b, 4, none⟩ y4).setCell ⟨b, 5, none⟩ y5).setCell ⟨b, 6, none⟩ y6).setCell ⟨b, 7, none⟩ y7).setCell ⟨b, 8, none⟩ y8).heap[b]? = some (.cells #[y0, y1, y2, y3, y4, y5, y6, y7, y8, x9] t (0, 0)) := by rw [heap_setCell_same h7 y8]; rfl
  have h9 : ((((((((((w.setCell ⟨b, 0, none⟩ y0).setCell ⟨b, 1, none⟩ y1).setCell ⟨b, 2, none⟩ y2).setCell ⟨b, 3, none⟩ y3).setCell ⟨b, 4, none⟩ y4).setCell ⟨b, 5, none⟩ y5).setCell ⟨b, 6, none⟩ y6).setCell ⟨b, 7, none⟩ y7).setCell ⟨b, 8, none⟩ y8).setCell ⟨b, 9, none⟩ y9).heap[b]? = some (.cells #[y0, y1, y2, y3, y4, y5, y6, y7, y8, y9] t (0, 0)) := by rw [heap_setCell_same h8 y9]; rfl
  have g0 : w.grownBy (w.setCell ⟨b, 0, none⟩ y0) (some b) := grown_set _ _ _ _
  have g1 : w.grownBy ((w.setCell ⟨b, 0, none⟩ y0).setCell ⟨b, 1, none⟩ y1) (some b) := grown_trans g0 (grown_set _ _ _ _)
  have g2 : w.grownBy (((w.setCell ⟨b, 0, none⟩ y0).setCell ⟨b, 1, none⟩ y1).setCell ⟨b, 2, none⟩ y2) (some b) := grown_trans g1 (grown_set _ _ _ _)
  have g3 : w.grownBy ((((w.setCell ⟨b, 0, none⟩ y0).setCell ⟨b, 1, none⟩ y1).setCell ⟨b, 2, none⟩ y2).setCell ⟨b, 3, none⟩ y3) (some b) := grown_trans g2 (grown_set _ _ _ _)
  have g4 : w.grownBy (((((w.setCell ⟨b, 0, none⟩ y0).setCell ⟨b, 1, none⟩ y1).setCell ⟨b, 2, none⟩ y2).setCell ⟨b, 3, none⟩ y3).setCell ⟨b, 4, none⟩ y4) (some b) := grown_trans g3 (grown_set _ _ _ _)
  have g5 : w.grownBy ((((((w.setCell ⟨b, 0, none⟩ y0).setCell ⟨b, 1, none⟩ y1).setCell ⟨b, 2, none⟩ y2).setCell ⟨b, 3, none⟩ y3).setCell ⟨b, 4, none⟩ y4).setCell ⟨b, 5, none⟩ y5) (some b) := grown_trans g4 (grown_set _ _ _ _)
  have g6 : w.grownBy (((((((w.setCell ⟨b, 0, none⟩ y0).setCell ⟨b, 1, none⟩ y1).setCell ⟨b, 2, none⟩ y2).setCell ⟨b, 3, none⟩ y3).setCell ⟨b, 4, none⟩ y4).setCell ⟨b, 5, none⟩ y5).setCell ⟨b, 6, none⟩ y6) (some b) := grown_trans g5 (grown_set _ _ _ _)
  have g7 : w.grownBy ((((((((w.setCell ⟨b, 0, none⟩ y0).setCell ⟨b, 1, none⟩ y1).setCell ⟨b, 2, none⟩ y2).setCell ⟨b, 3, none⟩ y3).setCell ⟨b, 4, none⟩ y4).setCell ⟨b, 5, none⟩ y5).setCell ⟨b, 6, none⟩ y6).setCell ⟨b, 7, none⟩ y7) (some b) := grown_trans g6 (grown_set _ _ _ _)
  have g8 : w.grownBy (((((((((w.setCell ⟨b, 0, none⟩ y0).setCell ⟨b, 1, none⟩ y1).setCell ⟨b, 2, none⟩ y2).setCell ⟨b, 3, none⟩ y3).setCell ⟨b, 4, none⟩ y4).setCell ⟨b, 5, none⟩ y5).setCell ⟨b, 6, none⟩ y6).setCell ⟨b, 7, none⟩ y7).setCell ⟨b, 8, none⟩ y8) (some b) := grown_trans g7 (grown_set _ _ _ _)
  have g9 : w.grownBy ((((((((((w.setCell ⟨b, 0, none⟩ y0).setCell ⟨b, 1, none⟩ y1).setCell ⟨b, 2, none⟩ y2).setCell ⟨b, 3, none⟩ y3).setCell ⟨b, 4, none⟩ y4).setCell ⟨b, 5, none⟩ y5).setCell ⟨b, 6, none⟩ y6).setCell ⟨b, 7, none⟩ y7).setCell ⟨b, 8, none⟩ y8).setCell ⟨b, 9, none⟩ y9) (some b) := grown_trans g8 (grown_set _ _ _ _)
  exact ⟨h9, g9⟩
end
end Go.Proofs.YtcngmkfpbcemjaaGreat
