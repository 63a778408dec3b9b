/-
  Package carve: the contract of Take over a heap whose words tell its blocks, the tree of the free ones, and the lists.
  Conditions: the Tx stands in memory, over a segment of 4800 bytes, and its words tell such a heap.
-/
import Derived.Test.YtoamlkljfmgomaaGreatCarT
namespace Go.Proofs.YtoamlkljfmgomaaGreat
open Go.RowKit
set_option linter.unusedVariables false
set_option linter.unusedSimpArgs false
set_option maxRecDepth 100000

section
variable {w0 w : World} {T M : Nat} {R : Option Nat} {B D : Nat} {ws : List Nat} {l : List (Nat × Nat)} {E : Nat} {bs : List Blk} {L : Nat → List Nat}
theorem need_bounds (n : Nat) : needOf n % 16 = 0 ∧ 48 ≤ needOf n ∧ n + 40 ≤ needOf n ∧ needOf n ≤ n + 55 := by
  unfold needOf
  split <;> omega
theorem fitM_is {n a i : Nat} (h : fitM bs n a = some i) : i < bs.length ∧ (bs.getD i default).u = false ∧ needOf n ≤ (bs.getD i default).s ∧ padN (bs.getD i default).off a + needOf n ≤ (bs.getD i default).s := by
  have := bestK_is (fitB (needOf n) a) bs bs.length
  unfold fitM at h
  rw [h] at this
  obtain ⟨h1, h2, _⟩ := this
  unfold fitB at h2
  simp only [Bool.and_eq_true, Bool.not_eq_true', decide_eq_true_eq] at h2
  exact ⟨h1, h2.1.1, h2.1.2, by omega⟩
theorem htake_ok (h : Txs w0 w T M R B D ws l) (hws : 8 * ws.length = 4800) (hS : SoundF (txSee ws l) E bs L) {n a i owner : Nat} (ha : alignP a) (hn : n ≤ 18446744073709551560) (how : owner ≤ 8) (hfi : fitM bs n a = some i) :
    Calls Tryz.prog 14 #[.pointer (some ⟨T, 0, none⟩), .int .i64 owner, .int .u64 n, .int .u64 a] w fun e w' => e = .returned (.tuple #[.int .u64 (gO bs i + padN (gO bs i) a + 32 : Nat), .int .i64 0]) ∧ ∃ R' l', Txs w0 w' T M R' B D ws l' ∧ (SoundF (txSee ws l') E (takeB bs i (padN (gO bs i) a) (needOf n) owner n) (takeL L owner (gO bs i + padN (gO bs i) a)) ∧ ∀ j, j < (n + 7) / 8 → txSee ws l' (gO bs i + padN (gO bs i) a + 32 + 8 * j) = 0) ∧ Keep w R w' R' := by
  have hF := hS.heap
  obtain ⟨hi, hu, hnd, hpn⟩ := fitM_is hfi
  have hat := atB_of hS.told hi
  have hnb := need_bounds n
  have his := hat.is
  have hsz := his.size
  have hlo := his.lo
  have hhi := his.hi
  have hal := his.al
  have hEl := hS.low
  have hpa := padN_al ha hal
  have hpi := (padN_is ha hal).2
  have hfr := hat.frees hu hS.told
  have hfo := hat.free_out
  have hfit := hfit_any h.tx hws hF (n := n) ha hn
  show Calls Tryz.prog 14 #[.pointer (some ⟨T, 0, none⟩), .int .i64 owner, .int .u64 n, .int .u64 a] w fun e w' => e = .returned (.tuple #[.int .u64 ((bs.getD i default).off + padN (bs.getD i default).off a + 32 : Nat), .int .i64 0]) ∧ ∃ R' l', Txs w0 w' T M R' B D ws l' ∧ (SoundF (txSee ws l') E (takeB bs i (padN (bs.getD i default).off a) (needOf n) owner n) (takeL L owner ((bs.getD i default).off + padN (bs.getD i default).off a)) ∧ ∀ j, j < (n + 7) / 8 → txSee ws l' ((bs.getD i default).off + padN (bs.getD i default).off a + 32 + 8 * j) = 0) ∧ Keep w R w' R'
  have htk := take_eq bs i (padN (bs.getD i default).off a) (needOf n) owner n
  rw [htk]
  obtain ⟨A, hA⟩ : ∃ A, bs.take i = A := ⟨_, rfl⟩
  obtain ⟨C, hC⟩ : ∃ C, bs.drop (i + 1) = C := ⟨_, rfl⟩
  obtain ⟨P, hP⟩ : ∃ P, padN (bs.getD i default).off a = P := ⟨_, rfl⟩
  obtain ⟨N, hN⟩ : ∃ N, needOf n = N := ⟨_, rfl⟩
  have hfit2 : Calls Tryz.prog 11 #[.pointer (some ⟨T, 0, none⟩), .int .u64 n, .int .u64 a] w fun e w' => e = .returned (.tuple #[.agg #[.int .u64 ((bs.getD i default).off : Nat), .int .u64 P, .int .u64 N], .int .i64 0]) ∧ w.grownBy w' none := hfit.mono (by
    rintro e w' ⟨h1 | h1, hg⟩
    · obtain ⟨i', e1, e2⟩ := h1
      have : i' = i := Option.some.inj (e1.symm.trans hfi)
      subst this
      rw [← hP, ← hN]
      exact ⟨e2, hg⟩
    · rw [hfi] at h1; cases h1.1)
  rw [hA, hC] at hat hfr hfo ⊢
  rw [hP, hN] at hpn ⊢
  rw [hP] at hpa hpi
  rw [hN] at hnb hnd
  obtain ⟨b, hb⟩ : ∃ b, bs.getD i default = b := ⟨_, rfl⟩
  have hbm : b ∈ bs := hb ▸ getB_mem hi
  simp only [hb] at hat hu hnd hpn his hsz hlo hhi hal hfr hfo hfit2 ⊢
  have hkey : tS (txSee ws l b.off) = b.s := his.key
  have hb' : b.u = false := hu
  have hin : b.off ∈ freesB bs := freesB_mem.2 ⟨b, hbm, hu, rfl⟩
  have c : CutB (txSee ws l) E b.off b.s P N n owner (freesB A ++ freesB C) := ⟨by omega, ⟨hpa.1, hpi⟩, ⟨hnb.1, hnb.2.1⟩, hnb.2.2.1, hpn, how, hfo, hS.top⟩
  have hcut : A ++ (cutB b P N owner n ++ C) = A ++ (cutB b P N owner n ++ C) := rfl
  -- behind fill
  have hG5 : ∀ l5, (Stay (txSee ws l) (txSee ws l5) b.off (b.off + b.s) (freesB A ++ freesB C) ∧ CutW b.off b.s P N (cutS b.s P N) n owner (txSee ws l5) ∧ Hung (txSee ws l5) (((freesB A ++ freesB C) ++ padL P b.off) ++ restL b.s P N b.off) ∧ ∀ j, j < (n + 7) / 8 → txSee ws l5 (b.off + P + 32 + 8 * j) = 0) → HeapF (txSee ws l5) E (A ++ (cutB b P N owner n ++ C)) ∧ Ledg (usedB (A ++ (cutB b P N owner n ++ C))) (txSee ws l5) L ∧ ∀ c, c < 8 → b.off + P ∉ L c := fun l5 g5 =>
    ⟨cut_heap hF hat hu ⟨hpa.1, hpi⟩ ⟨hnb.1, hnb.2.1⟩ hnb.2.2.1 hpn how g5.1 g5.2.1 g5.2.2.1, cut_ledg hS hat hu (by omega) g5.1⟩
  have hmg := cut_mg (P := P) (N := N) (n := n) (owner := owner) (by rw [← hat.eq]; exact hS.merged) hu
  refine take_walk (O := b.off) (P := P) (S := b.s) (N := N) (q := b.off + P) (sz := cutS b.s P N) (rest := b.s - P - N)
    (G0 := fun l1 => l1 = l)
    (G1 := fun l1 => Cut1 (txSee ws l) (txSee ws l1) b.off b.s (freesB A ++ freesB C) (freesB A ++ freesB C))
    (G2 := fun l1 => Cut1 (txSee ws l) (txSee ws l1) b.off b.s (freesB A ++ freesB C) ((freesB A ++ freesB C) ++ padL P b.off) ∧ PadW (txSee ws l1) b.off P)
    (G3 := fun l1 => Cut1 (txSee ws l) (txSee ws l1) b.off b.s (freesB A ++ freesB C) (((freesB A ++ freesB C) ++ padL P b.off) ++ restL b.s P N b.off) ∧ PadW (txSee ws l1) b.off P ∧ RestW (txSee ws l1) b.off b.s P N)
    (G4 := fun l1 => (Cut1 (txSee ws l) (txSee ws l1) b.off b.s (freesB A ++ freesB C) (((freesB A ++ freesB C) ++ padL P b.off) ++ restL b.s P N b.off) ∧ PadW (txSee ws l1) b.off P ∧ RestW (txSee ws l1) b.off b.s P N) ∧ UsedW (txSee ws l1) b.off P (cutS b.s P N) owner)
    (G5 := fun l5 => Stay (txSee ws l) (txSee ws l5) b.off (b.off + b.s) (freesB A ++ freesB C) ∧ CutW b.off b.s P N (cutS b.s P N) n owner (txSee ws l5) ∧ Hung (txSee ws l5) (((freesB A ++ freesB C) ++ padL P b.off) ++ restL b.s P N b.off) ∧ ∀ j, j < (n + 7) / 8 → txSee ws l5 (b.off + P + 32 + 8 * j) = 0)
    h rfl (by omega) rfl rfl rfl hfit2 ?size ?del ?pad ?nopad ?rest ?norest ?wr ?fl ?lk ?nolk
  case size =>
    intro V hg
    have := csize_any (h.tx.later hg) b.off (by omega)
    rw [hkey] at this
    exact this
  case del =>
    rintro V R1 l1 X rfl
    exact st_del X hws c hF.hung hin (by omega) hfr
  case pad => exact fun hp V R1 l1 X g => st_pad X hws c g hp
  case nopad => exact fun hp l1 g => st_nopad g hp
  case rest => exact fun hr V R1 l1 X g => st_rest X hws c g hr
  case norest => exact fun hr l1 g => st_norest g hr
  case wr => exact fun V R1 l1 X g => st_write X hws c g
  case fl => exact fun V R1 l1 X g => st_fill X hws c g
  case lk =>
    intro ho V R1 l1 X g
    obtain ⟨p1, p2, p3⟩ := hG5 l1 g
    have hU := p1.grid
    have hoU : b.off + P ∈ usedB (A ++ (cutB b P N owner n ++ C)) := by
      rw [usedB_append, usedB_append, cut_used]; simp
    refine (hlink (c := owner - 1) X hws p2 hU (by omega) hoU).mono ?_
    rintro e w' ⟨rfl, R', l', X', e1, K⟩
    refine ⟨rfl, R', l', X', ⟨?_, fun j hj => ?_⟩, K⟩
    · have hls : LStay (txSee ws l1) (txSee ws l') (usedB (A ++ (cutB b P N owner n ++ C))) := fun x h1 h2 => by
        rw [e1]
        exact LStay.link p2 hU (by omega) hoU x h1 h2
      refine (p1.relist hls).sound hmg ?_ (cut_whose hS hat (by omega) how p3)
      have := p2.link hU (c := owner - 1) (by omega) hoU p3 (g := txSee ws l') e1
      unfold takeL
      rw [if_neg ho]
      exact this
    · have hj' := g.2.2.2 j hj
      have hsl : ∀ c, c < 8 → slotH c < 3776 := fun c hc => slotH_lt hc
      have hx := e1 (b.off + P + 32 + 8 * j)
      rw [hx]
      have hk := LStay.link p2 hU (c := owner - 1) (by omega) hoU (b.off + P + 32 + 8 * j) (fun c hc => by have := hsl c hc; omega) (fun q hq => ?_)
      · rw [hk]; exact hj'
      · have hqq : q = b.off + P ∨ q + 48 ≤ b.off + P ∨ b.off + P + cutS b.s P N ≤ q := by
          have hm : (⟨b.off + P, cutS b.s P N, true, owner, n⟩ : Blk) ∈ A ++ (cutB b P N owner n ++ C) := by
            unfold cutB cutS; simp
          rcases p1.told.used_far hm hq with k | k
          · exact .inl k.1
          · exact .inr k
        have hcs := cutS_is c
        omega
  case nolk =>
    intro ho l1 g
    obtain ⟨p1, p2, p3⟩ := hG5 l1 g
    refine ⟨p1.sound hmg ?_ (cut_whose hS hat (by omega) how p3), g.2.2.2⟩
    unfold takeL
    rw [if_pos ho]
    exact p2
end
end Go.Proofs.YtoamlkljfmgomaaGreat
