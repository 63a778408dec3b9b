/-
  Package carve: the contracts of sizeOf, pad, spare and fill; tree.Delete over a heap's tree, ledger.Link over a heap's lists.
  Conditions: the Tx stands in memory, over a segment of 4800 bytes.
-/
import Derived.Test.YtoamlkljfmgomaaGreatCarM
import Derived.Test.YtoamlkljfmgomaaGreatLTag
import Derived.Test.YtoamlkljfmgomaaGreatLTx
import Derived.Test.YtoamlkljfmgomaaGreatLTree
import Derived.Test.YtoamlkljfmgomaaGreatLWord
namespace Go.Proofs.YtoamlkljfmgomaaGreat
open Go.RowKit
set_option linter.unusedVariables false
set_option linter.unusedSimpArgs false
set_option maxRecDepth 100000

section
variable {w0 w w' : World} {T M : Nat} {R : Option Nat} {B D : Nat} {ws : List Nat} {l l' : List (Nat × Nat)} {off : Nat} {ls : List Nat}
theorem csize_any (h : Thinks w T M R B D ws l) (off : Nat) (ho : off < 18446744073709551616) :
    Calls Tryz.prog 36 #[.pointer (some ⟨T, 0, none⟩), .int .u64 off] w fun e w' => e = .returned (.int .u64 (tS (txSee ws l off) : Nat)) ∧ w.grownBy w' none := by
  have hld := txload_any h off ho
  have hlt := txSee_lt h.seg.words h.ok off
  obtain ⟨x, hx⟩ : ∃ x, txSee ws l off = x := ⟨_, rfl⟩
  rw [hx] at hld hlt ⊢
  have hun := fun w1 => tunpack_any x hlt w1
  obtain ⟨s, hs⟩ : ∃ s, tS x = s := ⟨_, rfl⟩
  rw [hs] at hun ⊢
  go_enter Tryz.func36, Tryz.ntmps36
  go_wp2_with (first | (go_at_call 20; (with_reducible refine hld.mono ?_); rintro e w1 ⟨rfl, hg1⟩) | (go_at_call 55; (with_reducible refine (hun _).mono ?_); rintro e w2 ⟨rfl, hg2⟩; have G2 := grown_trans hg1 hg2))
  go_ret
  exact ⟨rfl, grown_trans G2 (World.grownBy_alloc _ _ _)⟩
theorem pad_up {off a : Nat} (ha : alignP a) (ho : off % 16 = 0) (hr : (off + 32) % a ≠ 0) : (off + 32 + 48 + (a - 1)) / a * a = off + 32 + padN off a := by
  unfold padN
  rw [if_neg hr]
  rcases ha with rfl | rfl | rfl | rfl | rfl | rfl | rfl | rfl | rfl <;> split <;> omega
theorem cpad_any {off a : Nat} (ha : alignP a) (ho : off % 16 = 0) (hlt : off < 1000000000) (w : World) :
    Calls Tryz.prog 27 #[.int .u64 off, .int .u64 a] w fun e w' => e = .returned (.int .u64 (padN off a : Nat)) ∧ w = w' := by
  have hal := ha.le
  have hpl := padN_al ha ho
  have a0 : ¬ (a : Int) = 0 := by omega
  have e32 : IntKind.u64.wrap ((off : Int) + 32) = ((off + 32 : Nat) : Int) := by rw [IntKind.wrap_u64]; omega
  obtain ⟨r, er⟩ : ∃ r, (off + 32) % a = r := ⟨_, rfl⟩
  have e3 : ((off + 32 : Nat) : Int).tmod (a : Int) = (r : Nat) := by rw [Int.tmod_eq_emod_of_nonneg (by omega)]; omega
  obtain ⟨k, hk, ek⟩ : ∃ k, k < 64 ∧ a = 2 ^ k := by
    rcases ha with rfl | rfl | rfl | rfl | rfl | rfl | rfl | rfl | rfl
    · exact ⟨4, by decide, by decide⟩
    · exact ⟨5, by decide, by decide⟩
    · exact ⟨6, by decide, by decide⟩
    · exact ⟨7, by decide, by decide⟩
    · exact ⟨8, by decide, by decide⟩
    · exact ⟨9, by decide, by decide⟩
    · exact ⟨10, by decide, by decide⟩
    · exact ⟨11, by decide, by decide⟩
    · exact ⟨12, by decide, by decide⟩
  have hup := fun w => up_pow_low (off + 32 + 48) k a hk ek (by omega) w
  by_cases hr : r = 0
  · subst hr
    have hP : padN off a = 0 := by unfold padN; rw [if_pos er]
    rw [hP]
    obtain ⟨o32, eo⟩ : ∃ q, off + 32 = q := ⟨_, rfl⟩
    rw [eo] at e32 e3
    clear hup ek hk er ha hpl hP eo
    go_enter Tryz.func27, Tryz.ntmps27
    go_wp2
    go_ret
    exact ⟨rfl, rfl⟩
  · have hpu := pad_up ha ho (by rw [er]; exact hr)
    obtain ⟨P, hP⟩ : ∃ P, padN off a = P := ⟨_, rfl⟩
    rw [hP] at hpu hpl ⊢
    rw [hpu] at hup
    obtain ⟨o32, eo⟩ : ∃ q, off + 32 = q := ⟨_, rfl⟩
    rw [eo] at e32 e3 hup
    have e48 : IntKind.u64.wrap ((o32 : Int) + 48) = ((o32 + 48 : Nat) : Int) := by rw [IntKind.wrap_u64]; omega
    have eP : IntKind.u64.wrap (((o32 + P : Nat) : Int) - (o32 : Int)) = (P : Nat) := by rw [IntKind.wrap_u64]; omega
    obtain ⟨o48, eo8⟩ : ∃ q, o32 + 48 = q := ⟨_, rfl⟩
    obtain ⟨oP, eoP⟩ : ∃ q, o32 + P = q := ⟨_, rfl⟩
    rw [eo8] at hup e48
    rw [eoP] at hup eP
    have hr0 : ¬ (r : Int) = 0 := by omega
    have hrb : ((r : Int) == 0) = false := by simpa using hr
    clear ek hk er ha hpl hpu hP eo eo8 eoP hal ho
    go_enter Tryz.func27, Tryz.ntmps27
    go_wp2_with (first | (go_at_call 59; (with_reducible refine (hup _).mono ?_); rintro e w1 ⟨rfl, rfl⟩))
    go_ret
    exact ⟨rfl, rfl⟩
/-! ### stores into a heap's words -/
theorem see_off {off v : Nat} (hws : 8 * ws.length = 4800) (h8 : off % 8 = 0) (hlt : off < 4800) (x : Nat) : txSee ws (txStore ws l off v) x = if x = off then v else txSee ws l x :=
  see_stored ⟨h8, by omega⟩ x
theorem packN_lt {s : Nat} {u : Bool} {o : Int} : packN s u o < 18446744073709551616 := by
  by_cases hm : mayP s u o
  · exact (unpack_int hm).1
  · unfold packN; rw [if_neg hm]; decide
/-- what Write leaves -/
theorem hwrite (h : Txs w0 w T M R B D ws l) (hws : 8 * ws.length = 4800) {s : Nat} {u : Bool} {o : Int} (hm : mayP s u o) (hi : inP (txSee ws l 16) off s) (hE : txSee ws l 16 ≤ 4800) :
    Calls Tryz.prog 39 #[.pointer (some ⟨T, 0, none⟩), .int .u64 off, .agg #[.int .u64 s, .bool u, .int .i64 o]] w fun e w' => e = .returned (.int .i64 0) ∧ ∃ R' l', Txs w0 w' T M R' B D ws l' ∧ (∀ x, txSee ws l' x = if x = off ∨ x = off + s - 8 then packN s u o else txSee ws l x) ∧ Keep w R w' R' := by
  have hb := may_bounds hm
  unfold inP at hi
  refine (twrite_yes h.tx off s u o (by omega) hm hi).mono ?_
  rintro e w' ⟨rfl, ht⟩
  obtain ⟨R', h1, h2⟩ := step_keep h ht
  refine ⟨rfl, R', _, h1, fun x => ?_, h2⟩
  rw [see_off hws (by omega) (by omega), see_off hws (by omega) (by omega)]
  by_cases e1 : x = off + s - 8
  · rw [if_pos e1, if_pos (.inr e1)]
  · by_cases e2 : x = off
    · rw [if_neg e1, if_pos e2, if_pos (.inl e2)]
    · rw [if_neg e1, if_neg e2, if_neg (fun e => e.elim e2 e1)]
/-- a block goes from the tree -/
theorem hdelete (h : Txs w0 w T M R B D ws l) (hws : 8 * ws.length = 4800) (hH : Hung (txSee ws l) ls) (ho : off ∈ ls) :
    Calls Tryz.prog 37 #[.pointer (some ⟨T, 0, none⟩), .int .u64 off] w fun e w' => e = .returned (.bool true) ∧ ∃ R' l', Txs w0 w' T M R' B D ws l' ∧ Hung (txSee ws l') (ls.filter fun a => decide (a ≠ off)) ∧ Kept ls (txSee ws l) (txSee ws l') ∧ Keep w R w' R' := by
  have hG := hH.lone.free
  have hI := hH.is hG (fun x hx => upL_mem.2 hx)
  have hB : Bed ws l (fun x => tS (txSee ws l x)) (upL ls) := ⟨hG, hws, fun _ _ => rfl⟩
  refine (tdelete_yes h.tx hB hI (upL_mem.2 ho) ho).mono ?_
  rintro e w' ⟨rfl, l', ht, hB', hI', hK⟩
  obtain ⟨R', h1, h2⟩ := step_keep h ht
  exact ⟨rfl, R', l', h1, hI'.hung fun x hx => hB'.keys x (hI'.sub x hx), fun q a b => hK q a fun x hx => b x (upL_mem.1 hx), h2⟩
/-- a block comes into it -/
theorem hinsert (h : Txs w0 w T M R B D ws l) (hws : 8 * ws.length = 4800) (hH : Hung (txSee ws l) ls) (hl : Lone (ls ++ [off])) :
    Calls Tryz.prog 72 #[.pointer (some ⟨T, 0, none⟩), .int .u64 off] w fun e w' => e = .returned (.tuple #[]) ∧ ∃ R' l', Txs w0 w' T M R' B D ws l' ∧ Hung (txSee ws l') (ls ++ [off]) ∧ Kept (ls ++ [off]) (txSee ws l) (txSee ws l') ∧ Keep w R w' R' := by
  have hG := hl.free
  have hI := hH.is hG (fun x hx => upL_mem.2 (by simp [hx]))
  have hB : Bed ws l (fun x => tS (txSee ws l x)) (upL (ls ++ [off])) := ⟨hG, hws, fun _ _ => rfl⟩
  have hn : off ∉ ls := fun hm => (List.nodup_append.1 hl.nodup).2.2 off hm off (by simp) rfl
  refine (tinsert_any h.tx hB hI (upL_mem.2 (by simp)) hn).mono ?_
  rintro e w' ⟨rfl, l', ht, hB', hI', hK⟩
  obtain ⟨R', h1, h2⟩ := step_keep h ht
  exact ⟨rfl, R', l', h1, hI'.hung fun x hx => hB'.keys x (hI'.sub x hx), fun q a b => hK q a fun x hx => b x (upL_mem.1 hx), h2⟩
/-- some bytes become a free block -/
theorem hspare (h : Txs w0 w T M R B D ws l) (hws : 8 * ws.length = 4800) (hH : Hung (txSee ws l) ls) {s : Nat} (hm : mayP s false 0) (hi : inP (txSee ws l 16) off s) (hE : txSee ws l 16 ≤ 4800) (hf : ∀ y ∈ ls, y + 48 ≤ off ∨ off + s ≤ y) :
    Calls Tryz.prog 38 #[.pointer (some ⟨T, 0, none⟩), .int .u64 off, .int .u64 s] w fun e w' => e = .returned (.tuple #[]) ∧ ∃ R' l', Txs w0 w' T M R' B D ws l' ∧ Hung (txSee ws l') (ls ++ [off]) ∧ Stay (txSee ws l) (txSee ws l') off (off + s) ls ∧ (txSee ws l' off = packN s false 0 ∧ txSee ws l' (off + s - 8) = packN s false 0) ∧ Keep w R w' R' := by
  have hb := may_bounds hm
  have hi' := hi
  unfold inP at hi'
  have hw1 := hwrite h hws hm hi hE
  have hl : Lone (ls ++ [off]) := hH.lone.snoc (by omega) fun y hy => by have := hf y hy; omega
  have hon := hH.lone.on
  have hins : ∀ (w1 : World) (R1 : Option Nat) (l1 : List (Nat × Nat)), Txs w0 w1 T M R1 B D ws l1 → (∀ x, txSee ws l1 x = if x = off ∨ x = off + s - 8 then packN s false 0 else txSee ws l x) → Calls Tryz.prog 72 #[.pointer (some ⟨T, 0, none⟩), .int .u64 off] w1 fun e w' => e = .returned (.tuple #[]) ∧ ∃ R' l', Txs w0 w' T M R' B D ws l' ∧ Hung (txSee ws l') (ls ++ [off]) ∧ Stay (txSee ws l) (txSee ws l') off (off + s) ls ∧ (txSee ws l' off = packN s false 0 ∧ txSee ws l' (off + s - 8) = packN s false 0) ∧ Keep w1 R1 w' R' := by
    intro w1 R1 l1 X1 e1
    have hH1 : Hung (txSee ws l1) ls := hH.congr (by rw [e1, if_neg (by omega)]) fun x hx => by
      have := hf x hx
      have := hon x hx
      rw [e1, e1, e1, if_neg (by omega), if_neg (by omega), if_neg (by omega)]
      exact ⟨rfl, rfl, rfl⟩
    refine (hinsert X1 hws hH1 hl).mono ?_
    rintro e w' ⟨rfl, R', l', X', hH', hK, K'⟩
    have hfar : ∀ y ∈ ls ++ [off], y = off ∨ y + 48 ≤ off ∨ off + s ≤ y := fun y hy => by
      rcases List.mem_append.1 hy with hy | hy
      · exact .inr (hf y hy)
      · exact .inl (List.mem_singleton.1 hy)
    refine ⟨rfl, R', l', X', hH', ?_, ⟨?_, ?_⟩, K'⟩
    · refine Stay.trans (g := txSee ws l1) (fun x a b c => by rw [e1, if_neg (by omega)]) ?_
      refine (Stay.of_kept hK).less fun y hy => ?_
      rcases List.mem_append.1 hy with hy | hy
      · exact .inl hy
      · rw [List.mem_singleton.1 hy]; exact .inr (by omega)
    · rw [hK off (by omega) (fun y hy => by have := hfar y hy; omega), e1, if_pos (.inl rfl)]
    · rw [hK _ (by omega) (fun y hy => by have := hfar y hy; omega), e1, if_pos (.inr rfl)]
  have HINS := Lib.hid hins
  clear hins hH hm hi hE hf hb hi' hl hon
  go_enter Tryz.func38, Tryz.ntmps38
  go_wp2_with (first | (go_at_call 39; (with_reducible refine hw1.mono ?_); rintro e w1 ⟨rfl, R1, l1, X1, e1, K1⟩; have hin := HINS.out w1 R1 l1 X1 e1) | (go_at_call 72; (with_reducible refine hin.mono ?_); rintro e w2 ⟨rfl, R2, l2, X2, hH2, hS2, hT2, K2⟩))
  go_end0
  exact ⟨rfl, R2, l2, X2, hH2, hS2, hT2, K1.trans K2⟩
/-- what fill leaves -/
def FillF (f g : Nat → Nat) (off n k : Nat) : Prop := ∀ x, g x = if x = off + 8 then n else if off + 32 ≤ x ∧ x < off + 32 + 8 * k ∧ x % 8 = 0 then 0 else f x
theorem FillF.next {f g g' : Nat → Nat} {n k : Nat} (h : FillF f g off n k) (h8 : off % 8 = 0) (hg : ∀ x, g' x = if x = off + 32 + 8 * k then 0 else g x) : FillF f g' off n (k + 1) := fun x => by
  rw [hg, h x]
  by_cases e1 : x = off + 32 + 8 * k
  · rw [if_pos e1, if_neg (by omega), if_pos (by omega)]
  · rw [if_neg e1]
    by_cases e2 : x = off + 8
    · rw [if_pos e2, if_pos e2]
    · rw [if_neg e2, if_neg e2]
      by_cases e3 : off + 32 ≤ x ∧ x < off + 32 + 8 * k ∧ x % 8 = 0
      · rw [if_pos e3, if_pos (by omega)]
      · rw [if_neg e3, if_neg (by omega)]
set_option maxHeartbeats 4000000 in
theorem hfill (h : Txs w0 w T M R B D ws l) (hws : 8 * ws.length = 4800) {n : Nat} (h8 : off % 8 = 0) (hlt : off + 32 + n ≤ 4792) :
    Calls Tryz.prog 40 #[.pointer (some ⟨T, 0, none⟩), .int .u64 off, .int .u64 n] w fun e w' => e = .returned (.tuple #[]) ∧ ∃ R' l', Txs w0 w' T M R' B D ws l' ∧ FillF (txSee ws l) (txSee ws l') off n ((n + 7) / 8) ∧ Keep w R w' R' := by
  have hst := txstore_any h.tx (off + 8) n (by omega) (by omega)
  have hwd := fun w => words_any n (by omega) w
  obtain ⟨m, em⟩ : ∃ m, (n + 7) / 8 = m := ⟨_, rfl⟩
  rw [em] at hwd ⊢
  have hlim : off + 32 + 8 * m ≤ 4800 := by omega
  have e8 : IntKind.u64.wrap ((off : Int) + 8) = ((off + 8 : Nat) : Int) := by rw [IntKind.wrap_u64]; omega
  have e32 : IntKind.u64.wrap ((off : Int) + 32) = ((off + 32 : Nat) : Int) := by rw [IntKind.wrap_u64]; omega
  have hF0 : ∀ x, txSee ws (txStore ws l (off + 8) n) x = if x = off + 8 then n else txSee ws l x := fun x => see_off hws (by omega) (by omega) x
  have hF1 : FillF (txSee ws l) (txSee ws (txStore ws l (off + 8) n)) off n 0 := fun x => by
    rw [hF0]
    by_cases e : x = off + 8
    · rw [if_pos e, if_pos e]
    · rw [if_neg e, if_neg e, if_neg (by omega)]
  obtain ⟨f, hf⟩ : ∃ f, txSee ws l = f := ⟨_, rfl⟩
  rw [hf] at hF1 ⊢
  obtain ⟨l1, hl1⟩ : ∃ l1, txStore ws l (off + 8) n = l1 := ⟨_, rfl⟩
  rw [hl1] at hst hF1
  obtain ⟨o8, eo8⟩ : ∃ q, off + 8 = q := ⟨_, rfl⟩
  rw [eo8] at hst e8
  have HF1 := Lib.hid hF1
  have HX := Lib.hid h
  obtain ⟨o32, eo32⟩ : ∃ q, off + 32 = q := ⟨_, rfl⟩
  rw [eo32] at e32
  clear hF0 hF1 hl1 hf h
  go_enter Tryz.func40, Tryz.ntmps40
  go_wp2_with (first | (go_at_call 17; (with_reducible refine hst.mono ?_); rintro e w1 ⟨rfl, ht1⟩) | (go_at_call 75; (with_reducible refine (hwd _).mono ?_); rintro e w2 ⟨rfl, rfl⟩))
  obtain ⟨R1, X1, K1⟩ := step_keep HX.out ht1
  clear ht1 hst hwd
  go_loopw [14] (fun i wr => ∃ k : Nat, k ≤ m ∧ i = .int .u64 (k : Nat) ∧ ∃ Rk lk, Txs w0 wr T M Rk B D ws lk ∧ FillF f (txSee ws lk) off n k ∧ Keep w R wr Rk) (fun i _ => m - (intOf i).toNat)
  case atStart => exact ⟨0, Nat.zero_le _, rfl, R1, l1, X1, HF1.out, K1⟩
  case round =>
    obtain ⟨k, hk, rfl, Rk, lk, Xk, Fk, Kk⟩ := hrel
    clear X1 K1
    by_cases hkm : k < m
    · have hs : Calls Tryz.prog 17 #[.pointer (some ⟨T, 0, none⟩), .int .u64 (off + 32 + 8 * k : Nat), .int .u64 0] wr _ := txstore_any Xk.tx (off + 32 + 8 * k) 0 (by omega) (by decide)
      have hsee : ∀ x, txSee ws (txStore ws lk (off + 32 + 8 * k) 0) x = if x = off + 32 + 8 * k then 0 else txSee ws lk x := fun x => see_off hws (by omega) (by omega) x
      have hF2 := Fk.next h8 hsee
      obtain ⟨l2, hl2⟩ : ∃ l2, txStore ws lk (off + 32 + 8 * k) 0 = l2 := ⟨_, rfl⟩
      rw [hl2] at hs hF2
      have e1 : IntKind.u64.wrap ((k : Int) * 8) = ((8 * k : Nat) : Int) := by rw [IntKind.wrap_u64]; omega
      have e2 : IntKind.u64.wrap ((o32 : Int) + ((8 * k : Nat) : Int)) = ((off + 32 + 8 * k : Nat) : Int) := by rw [IntKind.wrap_u64]; omega
      obtain ⟨k8, ek8⟩ : ∃ q, 8 * k = q := ⟨_, rfl⟩
      rw [ek8] at e1
      have e2' : IntKind.u64.wrap ((o32 : Int) + (k8 : Int)) = ((off + 32 + 8 * k : Nat) : Int) := by rw [← ek8]; exact e2
      obtain ⟨ok, eok⟩ : ∃ q, off + 32 + 8 * k = q := ⟨_, rfl⟩
      rw [eok] at hs e2'
      have HF2 := Lib.hid hF2
      have HXk := Lib.hid Xk
      have HKk := Lib.hid Kk
      have ek1 : IntKind.u64.wrap ((k : Int) + 1) = ((k + 1 : Nat) : Int) := by rw [IntKind.wrap_u64]; omega
      have hms : m - (k + 1) < m - k := by omega
      clear hsee hF2 hl2 e2 ek8 eok Xk Fk Kk
      go_wp2_with (first | (go_at_call 17; (with_reducible refine hs.mono ?_); rintro e w3 ⟨rfl, ht3⟩))
      obtain ⟨R3, X3, K3⟩ := step_keep HXk.out ht3
      go_roundw
      case rel => exact ⟨k + 1, by omega, by go_num, R3, l2, X3, HF2.out, HKk.out.trans K3⟩
      case measure => simp [intOf]; omega
    · obtain rfl : k = m := by omega
      have hkk : ¬ (k : Int) < (k : Int) := by omega
      go_wp2
      go_end0
      exact ⟨rfl, Rk, lk, Xk, Fk, Kk⟩
end
end Go.Proofs.YtoamlkljfmgomaaGreat
