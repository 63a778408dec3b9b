/-
  Texts of one layer, one behind the other: memory, contracts of the functions, and what follows of them.
  Conditions: as each theorem says.
-/
import Derived.Test.YtcngmkfpbcemjaaGreatCarT
import Derived.Test.YtcngmkfpbcemjaaGreatLCak
import Derived.Test.YtcngmkfpbcemjaaGreatLTri
import Derived.Test.YtcngmkfpbcemjaaGreatLPhd
import Derived.Test.YtcngmkfpbcemjaaGreatLTrk
import Derived.Test.YtcngmkfpbcemjaaGreatLTab
import Derived.Test.YtcngmkfpbcemjaaGreatLCae
set_option linter.unusedVariables false
set_option linter.unusedSimpArgs false
namespace Go.Proofs.YtcngmkfpbcemjaaGreat
open Go.RowKit
set_option maxRecDepth 100000
section
variable {w0 w : World} {T M : Nat} {R : Option Nat} {B D : Nat} {ws : List Nat} {l : List (Nat × Nat)} {E : Nat} {bs : List Blk} {L : Nat → List Nat}
theorem need_bounds (n : Nat) : needOf n % 16 = 0 ∧ 48 ≤ needOf n ∧ n + 40 ≤ needOf n ∧ needOf n ≤ n + 55 := by
  unfold needOf
  split <;> omega
theorem fitM_is {n a i : Nat} (h : fitM bs n a = some i) : i < bs.length ∧ (bs.getD i default).u = false ∧ needOf n ≤ (bs.getD i default).s ∧ padN (bs.getD i default).off a + needOf n ≤ (bs.getD i default).s := by
  have := bestK_is (fitB (needOf n) a) bs bs.length
  unfold fitM at h
  rw [h] at this
  obtain ⟨h1, h2, _⟩ := this
  unfold fitB at h2
  simp only [Bool.and_eq_true, Bool.not_eq_true', decide_eq_true_eq] at h2
  exact ⟨h1, h2.1.1, h2.1.2, by omega⟩
theorem htake_ok (h : Txs w0 w T M R B D ws l) (hws : 8 * ws.length = 4800) (hS : SoundF (txSee ws l) E bs L) {n a i owner : Nat} (ha : alignP a) (hn : n ≤ 18446744073709551560) (how : owner ≤ 8) (hfi : fitM bs n a = some i) :
    Calls Tryz.prog 16 #[.pointer (some ⟨T, 0, none⟩), .int .i64 owner, .int .u64 n, .int .u64 a] w fun e w' => e = .returned (.tuple #[.int .u64 (gO bs i + padN (gO bs i) a + 32 : Nat), .int .i64 0]) ∧ ∃ R' l', Txs w0 w' T M R' B D ws l' ∧ (SoundF (txSee ws l') E (takeB bs i (padN (gO bs i) a) (needOf n) owner n) (takeL L owner (gO bs i + padN (gO bs i) a)) ∧ ∀ j, j < (n + 7) / 8 → txSee ws l' (gO bs i + padN (gO bs i) a + 32 + 8 * j) = 0) ∧ Keep w R w' R' := by
  have hF := hS.heap
  obtain ⟨hi, hu, hnd, hpn⟩ := fitM_is hfi
  have hat := atB_of hS.told hi
  have hnb := need_bounds n
  have his := hat.is
  have hsz := his.size
  have hlo := his.lo
  have hhi := his.hi
  have hal := his.al
  have hEl := hS.low
  have hpa := padN_al ha hal
  have hpi := (padN_is ha hal).2
  have hfr := hat.frees hu hS.told
  have hfo := hat.free_out
  have hfit := hfit_any h.tx hws hF (n := n) ha hn
  show Calls Tryz.prog 16 #[.pointer (some ⟨T, 0, none⟩), .int .i64 owner, .int .u64 n, .int .u64 a] w fun e w' => e = .returned (.tuple #[.int .u64 ((bs.getD i default).off + padN (bs.getD i default).off a + 32 : Nat), .int .i64 0]) ∧ ∃ R' l', Txs w0 w' T M R' B D ws l' ∧ (SoundF (txSee ws l') E (takeB bs i (padN (bs.getD i default).off a) (needOf n) owner n) (takeL L owner ((bs.getD i default).off + padN (bs.getD i default).off a)) ∧ ∀ j, j < (n + 7) / 8 → txSee ws l' ((bs.getD i default).off + padN (bs.getD i default).off a + 32 + 8 * j) = 0) ∧ Keep w R w' R'
  have htk := take_eq bs i (padN (bs.getD i default).off a) (needOf n) owner n
  rw [htk]
  obtain ⟨A, hA⟩ : ∃ A, bs.take i = A := ⟨_, rfl⟩
  obtain ⟨C, hC⟩ : ∃ C, bs.drop (i + 1) = C := ⟨_, rfl⟩
  obtain ⟨P, hP⟩ : ∃ P, padN (bs.getD i default).off a = P := ⟨_, rfl⟩
  obtain ⟨N, hN⟩ : ∃ N, needOf n = N := ⟨_, rfl⟩
  have hfit2 : Calls Tryz.prog 43 #[.pointer (some ⟨T, 0, none⟩), .int .u64 n, .int .u64 a] w fun e w' => e = .returned (.tuple #[.agg #[.int .u64 ((bs.getD i default).off : Nat), .int .u64 P, .int .u64 N], .int .i64 0]) ∧ w.grownBy w' none := hfit.mono (by
    rintro e w' ⟨h1 | h1, hg⟩
    · obtain ⟨i', e1, e2⟩ := h1
      have : i' = i := Option.some.inj (e1.symm.trans hfi)
      subst this
      rw [← hP, ← hN]
      exact ⟨e2, hg⟩
    · rw [hfi] at h1; cases h1.1)
  rw [hA, hC] at hat hfr hfo ⊢
  rw [hP, hN] at hpn ⊢
  rw [hP] at hpa hpi
  rw [hN] at hnb hnd
  obtain ⟨b, hb⟩ : ∃ b, bs.getD i default = b := ⟨_, rfl⟩
  have hbm : b ∈ bs := hb ▸ getB_mem hi
  simp only [hb] at hat hu hnd hpn his hsz hlo hhi hal hfr hfo hfit2 ⊢
  have hkey : tS (txSee ws l b.off) = b.s := his.key
  have hb' : b.u = false := hu
  have hin : b.off ∈ freesB bs := freesB_mem.2 ⟨b, hbm, hu, rfl⟩
  have c : CutB (txSee ws l) E b.off b.s P N n owner (freesB A ++ freesB C) := ⟨by omega, ⟨hpa.1, hpi⟩, ⟨hnb.1, hnb.2.1⟩, hnb.2.2.1, hpn, how, hfo, hS.top⟩
  have hcut : A ++ (cutB b P N owner n ++ C) = A ++ (cutB b P N owner n ++ C) := rfl
  have hG5 : ∀ l5, (Stay (txSee ws l) (txSee ws l5) b.off (b.off + b.s) (freesB A ++ freesB C) ∧ CutW b.off b.s P N (cutS b.s P N) n owner (txSee ws l5) ∧ Hung (txSee ws l5) (((freesB A ++ freesB C) ++ padL P b.off) ++ restL b.s P N b.off) ∧ ∀ j, j < (n + 7) / 8 → txSee ws l5 (b.off + P + 32 + 8 * j) = 0) → HeapF (txSee ws l5) E (A ++ (cutB b P N owner n ++ C)) ∧ Ledg (usedB (A ++ (cutB b P N owner n ++ C))) (txSee ws l5) L ∧ ∀ c, c < 8 → b.off + P ∉ L c := fun l5 g5 =>
    ⟨cut_heap hF hat hu ⟨hpa.1, hpi⟩ ⟨hnb.1, hnb.2.1⟩ hnb.2.2.1 hpn how g5.1 g5.2.1 g5.2.2.1, cut_ledg hS hat hu (by omega) g5.1⟩
  have hmg := cut_mg (P := P) (N := N) (n := n) (owner := owner) (by rw [← hat.eq]; exact hS.merged) hu
  refine take_walk (O := b.off) (P := P) (S := b.s) (N := N) (q := b.off + P) (sz := cutS b.s P N) (rest := b.s - P - N)
    (G0 := fun l1 => l1 = l)
    (G1 := fun l1 => Cut1 (txSee ws l) (txSee ws l1) b.off b.s (freesB A ++ freesB C) (freesB A ++ freesB C))
    (G2 := fun l1 => Cut1 (txSee ws l) (txSee ws l1) b.off b.s (freesB A ++ freesB C) ((freesB A ++ freesB C) ++ padL P b.off) ∧ PadW (txSee ws l1) b.off P)
    (G3 := fun l1 => Cut1 (txSee ws l) (txSee ws l1) b.off b.s (freesB A ++ freesB C) (((freesB A ++ freesB C) ++ padL P b.off) ++ restL b.s P N b.off) ∧ PadW (txSee ws l1) b.off P ∧ RestW (txSee ws l1) b.off b.s P N)
    (G4 := fun l1 => (Cut1 (txSee ws l) (txSee ws l1) b.off b.s (freesB A ++ freesB C) (((freesB A ++ freesB C) ++ padL P b.off) ++ restL b.s P N b.off) ∧ PadW (txSee ws l1) b.off P ∧ RestW (txSee ws l1) b.off b.s P N) ∧ UsedW (txSee ws l1) b.off P (cutS b.s P N) owner)
    (G5 := fun l5 => Stay (txSee ws l) (txSee ws l5) b.off (b.off + b.s) (freesB A ++ freesB C) ∧ CutW b.off b.s P N (cutS b.s P N) n owner (txSee ws l5) ∧ Hung (txSee ws l5) (((freesB A ++ freesB C) ++ padL P b.off) ++ restL b.s P N b.off) ∧ ∀ j, j < (n + 7) / 8 → txSee ws l5 (b.off + P + 32 + 8 * j) = 0)
    h rfl (by omega) rfl rfl rfl hfit2 ?size ?del ?pad ?nopad ?rest ?norest ?wr ?fl ?lk ?nolk
  case size =>
    intro V hg
    have := csize_any (h.tx.later hg) b.off (by omega)
    rw [hkey] at this
    exact this
  case del =>
    rintro V R1 l1 X rfl
    exact st_del X hws c hF.hung hin (by omega) hfr
  case pad => exact fun hp V R1 l1 X g => st_pad X hws c g hp
  case nopad => exact fun hp l1 g => st_nopad g hp
  case rest => exact fun hr V R1 l1 X g => st_rest X hws c g hr
  case norest => exact fun hr l1 g => st_norest g hr
  case wr => exact fun V R1 l1 X g => st_write X hws c g
  case fl => exact fun V R1 l1 X g => st_fill X hws c g
  case lk =>
    intro ho V R1 l1 X g
    obtain ⟨p1, p2, p3⟩ := hG5 l1 g
    have hU := p1.grid
    have hoU : b.off + P ∈ usedB (A ++ (cutB b P N owner n ++ C)) := by
      rw [usedB_append, usedB_append, cut_used]; simp
    refine (hlink (c := owner - 1) X hws p2 hU (by omega) hoU).mono ?_
    rintro e w' ⟨rfl, R', l', X', e1, K⟩
    refine ⟨rfl, R', l', X', ⟨?_, fun j hj => ?_⟩, K⟩
    · have hls : LStay (txSee ws l1) (txSee ws l') (usedB (A ++ (cutB b P N owner n ++ C))) := fun x h1 h2 => by
        rw [e1]
        exact LStay.link p2 hU (by omega) hoU x h1 h2
      refine (p1.relist hls).sound hmg ?_ (cut_whose hS hat (by omega) how p3)
      have := p2.link hU (c := owner - 1) (by omega) hoU p3 (g := txSee ws l') e1
      unfold takeL
      rw [if_neg ho]
      exact this
    · have hj' := g.2.2.2 j hj
      have hsl : ∀ c, c < 8 → slotH c < 3776 := fun c hc => slotH_lt hc
      have hx := e1 (b.off + P + 32 + 8 * j)
      rw [hx]
      have hk := LStay.link p2 hU (c := owner - 1) (by omega) hoU (b.off + P + 32 + 8 * j) (fun c hc => by have := hsl c hc; omega) (fun q hq => ?_)
      · rw [hk]; exact hj'
      · have hqq : q = b.off + P ∨ q + 48 ≤ b.off + P ∨ b.off + P + cutS b.s P N ≤ q := by
          have hm : (⟨b.off + P, cutS b.s P N, true, owner, n⟩ : Blk) ∈ A ++ (cutB b P N owner n ++ C) := by
            unfold cutB cutS; simp
          rcases p1.told.used_far hm hq with k | k
          · exact .inl k.1
          · exact .inr k
        have hcs := cutS_is c
        omega
  case nolk =>
    intro ho l1 g
    obtain ⟨p1, p2, p3⟩ := hG5 l1 g
    refine ⟨p1.sound hmg ?_ (cut_whose hS hat (by omega) how p3), g.2.2.2⟩
    unfold takeL
    rw [if_pos ho]
    exact p2
end
end Go.Proofs.YtcngmkfpbcemjaaGreat
namespace Go.Proofs.YtcngmkfpbcemjaaGreat
open Go.RowKit
set_option maxRecDepth 100000
def HW (w0 w : World) (T : Nat) (R : Option Nat) (ws : List Nat) (E : Nat) (bs : List Blk) (L : Nat → List Nat) : Prop :=
  8 * ws.length = 4800 ∧ ∃ M B D l, Txs w0 w T M R B D ws l ∧ SoundF (txSee ws l) E bs L
def HZ (w0 w : World) (T : Nat) (R : Option Nat) (ws : List Nat) (E : Nat) (bs : List Blk) (L : Nat → List Nat) (p n : Nat) : Prop :=
  8 * ws.length = 4800 ∧ ∃ M B D l, Txs w0 w T M R B D ws l ∧ SoundF (txSee ws l) E bs L ∧ ∀ j, j < (n + 7) / 8 → txSee ws l (p + 8 * j) = 0
def HvK (w : World) (R : Option Nat) (base : Nat) (v : Value) (E : Nat) (bs : List Blk) (L : Nat → List Nat) : Prop :=
  ∃ b vs, v = heapV E b vs ∧ OwnB w base 79 b bs ∧ ∀ c, c < 8 → KW w R base (vs c) (L c)
section
variable {w0 w w' : World} {T : Nat} {R R' : Option Nat} {ws : List Nat} {E n a i base m k p : Nat} {bs : List Blk} {L : Nat → List Nat} {v : Value} {la : Option Addr}
theorem HW.later (h : HW w0 w T R ws E bs L) (hg : w.grownBy w' none) : HW w0 w' T R ws E bs L := by
  obtain ⟨h0, M, B, D, l, h1, h2⟩ := h
  exact ⟨h0, M, B, D, l, h1.later hg, h2⟩
theorem HW.since (h : HW w0 w T R ws E bs L) : w0.grownBy w none := by
  obtain ⟨h0, M, B, D, l, h1, h2⟩ := h
  exact h1.since
theorem HZ.heap (h : HZ w0 w T R ws E bs L p n) : HW w0 w T R ws E bs L := by
  obtain ⟨h0, M, B, D, l, h1, h2, _⟩ := h
  exact ⟨h0, M, B, D, l, h1, h2⟩
theorem HZ.later (h : HZ w0 w T R ws E bs L p n) (hg : w.grownBy w' none) : HZ w0 w' T R ws E bs L p n := by
  obtain ⟨h0, M, B, D, l, h1, h2, h3⟩ := h
  exact ⟨h0, M, B, D, l, h1.later hg, h2, h3⟩
theorem HvK.is (h : HvK w R base v E bs L) : HvIs w base v E bs L := by
  obtain ⟨b, vs, h1, h2, h3⟩ := h
  exact ⟨⟨b, vs, h1, h2, fun c hc => (h3 c hc).1⟩⟩
theorem HvK.later (h : HvK w R base v E bs L) (hg : w.grownBy w' none) : HvK w' R base v E bs L := by
  obtain ⟨b, vs, h1, h2, h3⟩ := h
  exact ⟨b, vs, h1, h2.later hg, fun c hc => (h3 c hc).later hg⟩
theorem HvK.mono {base' : Nat} (h : HvK w R base v E bs L) (hb : base' ≤ base) : HvK w R base' v E bs L := by
  obtain ⟨b, vs, h1, h2, h3⟩ := h
  exact ⟨b, vs, h1, h2.mono hb, fun c hc => (h3 c hc).mono hb⟩
theorem Keep.blks {t : TypeId} {l : List Blk} (K : Keep w R w' R') (h : OwnB w base t v l) (h1 : t ≠ 109) (h2 : t ≠ 23) : OwnB w' base t v l := by
  refine ⟨h.1, ?_⟩
  rcases h.2 with hn | ⟨g, cap, cur, rfl, hb, hgg, rest⟩
  · exact .inl hn
  · exact .inr ⟨g, cap, cur, rfl, hb, K.far hgg h1 h2, rest⟩
theorem HvK.step (h : HvK w R base v E bs L) (K : Keep w R w' R') : HvK w' R' base v E bs L := by
  obtain ⟨b, vs, h1, h2, h3⟩ := h
  exact ⟨b, vs, h1, K.blks h2 (by decide) (by decide), fun c hc => K.row (h3 c hc)⟩
theorem HW.newR (h : HW w0 w T R ws E bs L) {g : Nat} (hg : R = some g) : g < w.heap.size := by
  obtain ⟨h0, M, B, D, l, h1, h2⟩ := h
  exact h1.tx.ltR hg
theorem HW.row (h : HW w0 w T R ws E bs L) {xs : List Nat} (ho : OwnW w' base v xs) (hb : w.heap.size ≤ base) : KW w' R base v xs :=
  ⟨ho, fun g hg e => by
    have := h.newR e
    have := (World.ownsRow.lt ho g hg).1
    omega⟩
theorem HvIs.beside {E' : Nat} {bs' : List Blk} {L' : Nat → List Nat} (hv : HvIs w' base v E' bs' L') (h : HW w0 w T R ws E bs L) (hb : w.heap.size ≤ base) : HvK w' R base v E' bs' L' := by
  obtain ⟨b, vs, h1, h2, h3⟩ := hv.is
  exact ⟨b, vs, h1, h2, fun c hc => h.row (h3 c hc) hb⟩
theorem fitErr_arg (h : ¬ alignP a) : fitErr bs n a = 1 := by unfold fitErr; rw [if_pos h]
theorem fitErr_size (h : alignP a) (hn : 18446744073709551560 < n) : fitErr bs n a = 2 := by unfold fitErr; rw [if_neg (fun k => k h), if_pos hn]
theorem fitErr_none (h : alignP a) (hn : n ≤ 18446744073709551560) (hf : fitM bs n a = none) : fitErr bs n a = 3 := by unfold fitErr; rw [if_neg (fun k => k h), if_neg (by omega), if_pos hf]
theorem fitErr_some (h : alignP a) (hn : n ≤ 18446744073709551560) (hf : fitM bs n a = some i) : fitErr bs n a = 0 := by unfold fitErr; rw [if_neg (fun k => k h), if_neg (by omega), if_neg (by rw [hf]; simp)]
theorem hw_fit_bad (h : HW w0 w T R ws E bs L) (hn : n < 18446744073709551616) (ha : a < 18446744073709551616) {e : Nat} (he : fitErr bs n a = e) (hp : 0 < e) :
    Calls Tryz.prog 43 #[.pointer (some ⟨T, 0, none⟩), .int .u64 n, .int .u64 a] w fun e' w' => e' = .returned (.tuple #[.agg #[.int .u64 0, .int .u64 0, .int .u64 0], .int .i64 (e : Nat)]) ∧ w.grownBy w' none := by
  obtain ⟨h0, M, B, D, l, h1, h2⟩ := h
  subst he
  by_cases hA : alignP a
  · by_cases hN : 18446744073709551560 < n
    · rw [fitErr_size hA hN]
      exact cfit_size hA hN hn _ w
    · cases hf : fitM bs n a with
      | some i => rw [fitErr_some hA (by omega) hf] at hp; cases hp
      | none =>
        rw [fitErr_none hA (by omega) hf]
        refine (hfit_any h1.tx h0 h2.heap hA (by omega)).mono ?_
        rintro e w' ⟨h3 | h3, hg⟩
        · obtain ⟨i', e1, e2⟩ := h3
          rw [hf] at e1; cases e1
        · exact ⟨h3.2, hg⟩
  · rw [fitErr_arg hA]
    exact cfit_arg ha hA _ n w
theorem hw_take_zero (h : HW w0 w T R ws E bs L) {owner : Nat} (ha : alignP a) (hn : n ≤ 18446744073709551560) (how : owner ≤ 8) (hfi : fitM bs n a = some i) :
    Calls Tryz.prog 16 #[.pointer (some ⟨T, 0, none⟩), .int .i64 owner, .int .u64 n, .int .u64 a] w fun e w' => e = .returned (.tuple #[.int .u64 (gO bs i + padN (gO bs i) a + 32 : Nat), .int .i64 0]) ∧ ∃ R', HZ w0 w' T R' ws E (takeB bs i (padN (gO bs i) a) (needOf n) owner n) (takeL L owner (gO bs i + padN (gO bs i) a)) (gO bs i + padN (gO bs i) a + 32) n ∧ Keep w R w' R' := by
  obtain ⟨h0, M, B, D, l, h1, h2⟩ := h
  refine (htake_ok h1 h0 h2 ha hn how hfi).mono ?_
  rintro e w' ⟨rfl, R', l', X, hs, K⟩
  exact ⟨rfl, R', ⟨h0, M, B, D, l', X, hs⟩, K⟩
theorem hw_take_ok (h : HW w0 w T R ws E bs L) {owner : Nat} (ha : alignP a) (hn : n ≤ 18446744073709551560) (how : owner ≤ 8) (hfi : fitM bs n a = some i) :
    Calls Tryz.prog 16 #[.pointer (some ⟨T, 0, none⟩), .int .i64 owner, .int .u64 n, .int .u64 a] w fun e w' => e = .returned (.tuple #[.int .u64 (gO bs i + padN (gO bs i) a + 32 : Nat), .int .i64 0]) ∧ ∃ R', HW w0 w' T R' ws E (takeB bs i (padN (gO bs i) a) (needOf n) owner n) (takeL L owner (gO bs i + padN (gO bs i) a)) ∧ Keep w R w' R' :=
  (hw_take_zero h ha hn how hfi).mono fun e w' ⟨h1, R', h2, h3⟩ => ⟨h1, R', h2.heap, h3⟩
theorem hw_take_bad (h : HW w0 w T R ws E bs L) (hn : n < 18446744073709551616) (ha : a < 18446744073709551616) {owner : Int} (h0 : 0 ≤ owner) (h8 : owner ≤ 8) {e : Nat} (he : fitErr bs n a = e) (hp : 0 < e) :
    Calls Tryz.prog 16 #[.pointer (some ⟨T, 0, none⟩), .int .i64 owner, .int .u64 n, .int .u64 a] w fun e' w' => e' = .returned (.tuple #[.int .u64 0, .int .i64 (e : Nat)]) ∧ w.grownBy w' none := by
  have hfit := hw_fit_bad h hn ha he hp
  have i1 : ¬ owner < 0 := by omega
  have i2 : ¬ 8 < owner := by omega
  have e0 : ¬ (e : Int) = 0 := by omega
  have e1 : ((e : Int) != 0) = true := by simpa using e0
  clear he h
  go_enter Tryz.func16, Tryz.ntmps16
  go_wp2_with (first | (go_at_call 43; (with_reducible refine hfit.mono ?_); rintro e w1 ⟨rfl, hg1⟩))
  go_ret2
  exact ⟨rfl, grown_trans hg1 (World.grownBy_alloc _ _ _)⟩
theorem SoundF.heapW {l : List (Nat × Nat)} (h : SoundF (txSee ws l) E bs L) (hws : 8 * ws.length = 4800) : Heap ws l bs 0 := by
  obtain ⟨h1, h2, h3⟩ := h.walks
  refine ⟨.inr ⟨headOk_chk hws h.head, bs.length, true, h1, by unfold wkL; rw [if_pos rfl, h2], rfl⟩, ?_⟩
  have := walks_small (by omega) (headOk_chk hws h.head) h1
  exact this
theorem hw_few (h : HW w0 w T R ws E bs L) : bs.length ≤ 1000000 := by
  obtain ⟨h0, M, B, D, l, h1, h2⟩ := h
  exact (h2.heapW h0).len
theorem hw_walk (h : HW w0 w T R ws E bs L) :
    Calls Tryz.prog 20 #[.pointer (some ⟨T, 0, none⟩)] w fun e w' => ∃ v, e = .returned (.tuple #[v, .int .i64 0]) ∧ OwnB w' w.heap.size 56 v bs ∧ w.grownBy w' none := by
  obtain ⟨h0, M, B, D, l, h1, h2⟩ := h
  exact pwalk_any h1.tx (h2.heapW h0)
theorem hw_size (h : HW w0 w T R ws E bs L) :
    Calls Tryz.prog 28 #[.pointer (some ⟨T, 0, none⟩)] w fun e w' => e = .returned (.int .u64 (E : Nat)) ∧ w.grownBy w' none := by
  obtain ⟨h0, M, B, D, l, h1, h2⟩ := h
  have := hsize_any h1.tx
  rw [h2.top] at this
  exact this
theorem SoundF.listed {f : Nat → Nat} (h : SoundF f E bs L) {c : Nat} (hc : c < 8) : (∀ x ∈ L c, 3776 ≤ x ∧ x % 8 = 0 ∧ x < 4800) ∧ (L c).Nodup := by
  refine ⟨fun x hx => ?_, h.ledg.once c hc⟩
  have := h.grid.lo x (h.ledg.on c hc x hx)
  omega
theorem hw_list_few (h : HW w0 w T R ws E bs L) {c : Nat} (hc : c < 8) : (L c).length ≤ 600 := by
  obtain ⟨h0, M, B, D, l, h1, h2⟩ := h
  obtain ⟨h3, h4⟩ := h2.listed hc
  exact few_places 600 (L c) h4 fun x hx => by have := h3 x hx; omega
theorem hw_list (h : HW w0 w T R ws E bs L) {c : Nat} (hc : c < 8) (hw : WordsAt w la (L c)) (hm : (L c).length = m) :
    Calls Tryz.prog 30 #[.pointer (some ⟨T, 0, none⟩), .int .i64 c, .slice la m k] w fun e w' => e = .returned (.bool true) ∧ w.grownBy w' none := by
  have hf := hw_list_few h hc
  obtain ⟨h0, M, B, D, l, h1, h2⟩ := h
  obtain ⟨h3, h4⟩ := h2.listed hc
  have h64 : ∀ i, (L c).getD i 0 < 18446744073709551616 := fun i => by
    rcases Nat.lt_or_ge i (L c).length with hi | hi
    · have hx : (L c).getD i 0 ∈ L c := by
        rw [List.getD_eq_getElem?_getD, List.getElem?_eq_getElem hi]
        exact List.getElem_mem _
      have := h3 _ hx
      omega
    · rw [List.getD_eq_getElem?_getD, List.getElem?_eq_none hi]
      decide
  have := lcheck_any (c := k) h1.tx (by omega) hw hm (by omega) h64 c
  rw [getH_head hc, decide_eq_true (h2.ledg.check h2.grid hc)] at this
  exact this
theorem hw_tree (h : HW w0 w T R ws E bs L) (hw : WordsAt w la (freesB bs)) (hm : (freesB bs).length = m) :
    Calls Tryz.prog 31 #[.pointer (some ⟨T, 0, none⟩), .slice la m k] w fun e w' => e = .returned (.bool true) ∧ w.grownBy w' none := by
  subst hm
  obtain ⟨h0, M, B, D, l, h1, h2⟩ := h
  have hfew := few_lone h2.freeL.lone
  refine (tcheck_any (c := k) h1.tx (h2.bed h0) (fun _ hx => hx) h2.freeL.nodup hw (by omega)).mono ?_
  rintro e w' ⟨hg, b, rfl, hb⟩
  rw [hb.2 h2.tree.tree]
  exact ⟨rfl, hg⟩
theorem hw_find (h : HW w0 w T R ws E bs L) (off : Nat) :
    Calls Tryz.prog 22 #[.pointer (some ⟨T, 0, none⟩), .int .u64 off] w fun e w' => e = .returned (.tuple #[(besB (pF off) bs 0).val, .bool (besN (pF off) bs 0).isSome]) ∧ w.grownBy w' none := by
  obtain ⟨h0, M, B, D, l, h1, h2⟩ := h
  exact pfind_any h1.tx (h2.heapW h0) off
theorem hw_bounds (h : HW w0 w T R ws E bs L) : Bounds bs := fun k hk => by
  obtain ⟨h0, M, B, D, l, h1, h2⟩ := h
  have hb := h2.told.is _ (getB_mem hk)
  have h3 := hb.al
  have h4 := hb.hi
  have h5 := h2.low
  show (bs.getD k default).off % 16 = 0 ∧ (bs.getD k default).off < 1000000 ∧ (bs.getD k default).s < 10000000
  omega
end
end Go.Proofs.YtcngmkfpbcemjaaGreat
namespace Go.Proofs.YtcngmkfpbcemjaaGreat
open Go.RowKit
set_option maxRecDepth 100000
theorem sound_first : SoundF (txSee (fmt48 4800) []) 4800 [freeB 3776 1024] (fun _ => []) := by
  have hf : fitsP 4800 4800 := fmt4800
  have e1 : ∀ x, txSee (fmt48 4800) [] x = if x = 4792 then 1024 else if x = 3776 then 1024 else if x = 32 then 3776 else if x = 40 then sumN 4800 else if x = 16 then 4800 else if x = 8 then 1 else if x = 0 then 7161130718081542961 else 0 := fun x => by
    rw [fmt48_yes hf, see_nil, getW_fmt (K := 600) hf]
  obtain ⟨f, ef⟩ : ∃ f, txSee (fmt48 4800) [] = f := ⟨_, rfl⟩
  rw [ef] at e1 ⊢
  have f16 : f 16 = 4800 := by rw [e1]; rfl
  have hp : packN 1024 false 0 = 1024 := by decide
  have hhead : HeadOk f := ⟨by rw [f16]; exact hf, by rw [e1]; rfl, by rw [e1]; rfl, by rw [f16, e1]; rfl⟩
  have htold : Told f 4800 3776 [freeB 3776 1024] 4800 := ⟨rfl, free_is (by decide) (by decide) (by decide) (by decide) (by decide) (by decide) (by rw [e1, hp]; rfl) (by rw [e1, hp]; rfl), rfl⟩
  have hfr : freesB [freeB 3776 1024] = [3776] := rfl
  have hus : usedB [freeB 3776 1024] = [] := rfl
  have hung : Hung f [3776] := by
    refine ⟨⟨fun x hx => ?_, by simp, fun x hx y hy hn => ?_⟩, ?_⟩
    · rw [List.mem_singleton.1 hx]; decide
    · rw [List.mem_singleton.1 hx, List.mem_singleton.1 hy] at hn; exact absurd rfl hn
    · have e32 : f 32 = 3776 := by rw [e1]; rfl
      rw [e32]
      refine TreeOf.node (L := []) (R := []) (by decide) (by simp) (by simp) ?_ ?_
      · rw [show f (3776 + 8) = 0 by rw [e1]; rfl]; exact TreeOf.nil
      · rw [show f (3776 + 16) = 0 by rw [e1]; rfl]; exact TreeOf.nil
  have hF : HeapF f 4800 [freeB 3776 1024] := ⟨hhead, f16, by decide, htold, hung⟩
  refine hF.sound trivial ?_ ?_
  · refine ⟨by simp, by simp, by simp, fun c hc => ?_, fun c hc => trivial⟩
    have := slotH_lt hc
    have h2 : slotH c ≠ 32 ∧ slotH c ≠ 40 ∧ slotH c ≠ 16 ∧ slotH c ≠ 8 ∧ slotH c ≠ 0 := by unfold slotH; omega
    rw [e1, if_neg (by omega), if_neg (by omega), if_neg h2.1, if_neg h2.2.1, if_neg h2.2.2.1, if_neg h2.2.2.2.1, if_neg h2.2.2.2.2]
    rfl
  · intro b hb hu
    rw [List.mem_singleton.1 hb] at hu
    cases hu
def tkP (bs : List Blk) (n a : Nat) : Nat := match fitM bs n a with | some i => gO bs i + padN (gO bs i) a + 32 | none => 0
def tkE (bs : List Blk) (n a : Nat) : Nat := match fitM bs n a with | some _ => 0 | none => 3
def tkB (bs : List Blk) (owner n a : Nat) : List Blk := match fitM bs n a with | some i => takeB bs i (padN (gO bs i) a) (needOf n) owner n | none => bs
def tkL (bs : List Blk) (L : Nat → List Nat) (owner n a : Nat) : Nat → List Nat := match fitM bs n a with | some i => takeL L owner (gO bs i + padN (gO bs i) a) | none => L
section
variable {w0 w w' : World} {T : Nat} {R R' : Option Nat} {ws : List Nat} {E n a i base m k p owner : Nat} {bs : List Blk} {L : Nat → List Nat} {v : Value} {la : Option Addr}
theorem hw_few600 (h : HW w0 w T R ws E bs L) : bs.length ≤ 600 := by
  obtain ⟨h0, M, B, D, l, h1, h2⟩ := h
  have hnd : (bs.map Blk.off).Nodup := by
    have := h2.told.apart
    unfold List.Nodup
    rw [List.pairwise_map]
    refine this.imp_of_mem fun {x y} hx hy hxy => ?_
    have := (h2.told.is x hx).size
    omega
  have := few_places 600 (bs.map Blk.off) hnd fun x hx => by
    obtain ⟨b, hb, rfl⟩ := List.mem_map.1 hx
    have h3 := h2.told.is b hb
    have := h3.al
    have := h3.hi
    have := h3.size
    have := h2.low
    omega
  rwa [List.length_map] at this
theorem tk_code (h : HW w0 w T R ws E bs L) (ha : alignP a) (hn : n ≤ 18446744073709551560) (how : owner ≤ 8) :
    Calls Tryz.prog 16 #[.pointer (some ⟨T, 0, none⟩), .int .i64 owner, .int .u64 n, .int .u64 a] w fun e w' => e = .returned (.tuple #[.int .u64 (tkP bs n a : Nat), .int .i64 (tkE bs n a : Nat)]) ∧ ∃ R', HW w0 w' T R' ws E (tkB bs owner n a) (tkL bs L owner n a) ∧ Keep w R w' R' := by
  have hal := ha.le
  unfold tkP tkE tkB tkL
  cases hf : fitM bs n a with
  | some i => exact hw_take_ok h ha hn how hf
  | none =>
    refine (hw_take_bad h (owner := owner) (by omega) (by omega) (by omega) (by omega) (fitErr_none ha hn hf) (by decide)).mono ?_
    rintro e w' ⟨rfl, hg⟩
    exact ⟨rfl, R, h.later hg, Keep.of_grown hg⟩
theorem tk_ref {V : World} {R0 : Option Nat} (h : HW w0 w T R ws E bs L) (hR : ∀ g, R0 = some g → g < V.heap.size) (hv : HvK V R0 base v E bs L) (hb : base ≤ V.heap.size) (ha : alignP a) (hn : n ≤ 18446744073709551560) (how : owner ≤ 8) :
    Calls Tryz.prog 60 #[v, .int .i64 owner, .int .u64 n, .int .u64 a] V fun e w' => ∃ v', e = .returned (.tuple #[v', .int .u64 (tkP bs n a : Nat), .int .i64 (tkE bs n a : Nat)]) ∧ HvK w' R0 base v' E (tkB bs owner n a) (tkL bs L owner n a) ∧ V.grownBy w' none := by
  have hal := ha.le
  have h6 := hw_few600 h
  have hbd := hw_bounds h
  have hl : ∀ c, c < 8 → (L c).length ≤ 600 := fun c hc => hw_list_few h hc
  unfold tkP tkE tkB tkL
  cases hf : fitM bs n a with
  | some i =>
    obtain ⟨b0, vs0, e0, o0, k0⟩ := hv
    have hv8 : HvIs V base v E bs (fun c => if c < 8 then L c else []) :=
      ⟨⟨b0, vs0, e0, o0, fun c hc => by show OwnW V base (vs0 c) (if c < 8 then L c else []); rw [if_pos hc]; exact (k0 c hc).1⟩⟩
    refine (rtake10_ok hv8 hb (by omega) hbd ha hn how hf fun c => ?_).mono ?_
    · show (if c < 8 then L c else []).length ≤ 1000
      by_cases hc : c < 8
      · rw [if_pos hc]; have := hl c hc; omega
      · rw [if_neg hc]; decide
    · rintro e w' ⟨v', rfl, h1, hrw, hg⟩
      obtain ⟨b, vs, q1, q2, q3⟩ := h1.is
      obtain ⟨b', vs', q4, q5⟩ := hrw E b0 vs0 e0
      have q6 := (heapV_inj (q1.symm.trans q4)).2
      refine ⟨v', rfl, ⟨b, vs, q1, q2, fun c hc => ⟨?_, fun g hg e => ?_⟩⟩, hg⟩
      · have := q3 c hc
        show OwnW w' base (vs c) (takeL L owner (gO bs i + padN (gO bs i) a) c)
        unfold takeL at this ⊢
        by_cases h0 : owner = 0
        · rw [if_pos h0] at this ⊢
          simp only [hc, if_true] at this
          exact this
        · rw [if_neg h0] at this ⊢
          unfold setL at this ⊢
          have ho8 : owner - 1 < 8 := by omega
          simp only [hc, ho8, if_true] at this
          exact this
      · rw [q6 c hc] at hg
        rcases q5 c hc with h7 | h7
        · rw [h7] at hg
          exact (k0 c hc).2 g hg e
        · have := h7 g hg
          have := hR g e
          omega
  | none =>
    refine (rtake10_bad hv.is (by omega) hbd (by omega) (by omega) (by omega) (by omega) (fitErr_none ha hn hf) (by decide)).mono ?_
    rintro e w' ⟨rfl, hg⟩
    exact ⟨v, rfl, hv.later hg, hg⟩
theorem HW.other {b : Nat} {c : Array Value} {t : TypeId} (h : HW w0 w T R ws E bs L) (hb : w.heap[b]? = some (.cells c t (0, 0))) (h1 : t ≠ 109) (h2 : t ≠ 23) (h3 : t ≠ 158) (h4 : t ≠ 5) (hn : w0.heap.size ≤ b) (hg : w.grownBy w' (some b)) : HW w0 w' T R ws E bs L := by
  obtain ⟨h0, M, B, D, l, X, hS⟩ := h
  refine ⟨h0, M, B, D, l, ⟨X.tx.turned (Turned.of_grown hg) (fun k hk => ?_), grown_step X.since hg (fun i hi => .inl (by injection hi with hi; omega)), X.newT, X.newM, X.newR, X.newB, X.newD⟩, hS⟩
  injection hk with hk
  subst hk
  exact ⟨X.tx.far hb h1 h2, fun e => ne_type hb X.tx.seg.head h3 e, fun e => ne_type hb X.tx.seg.data h4 e⟩
theorem own_other {b : Nat} {c : Array Value} {t e : TypeId} {size : Nat} {xs : List Value} (h : w.ownsRow base e size v m xs) (hb : w.heap[b]? = some (.cells c t (0, 0))) (hne : t ≠ e) (hg : w.grownBy w' (some b)) : w'.ownsRow base e size v m xs :=
  World.ownsRow.kept h hg (by
    by_cases e : v.ownBlock = none
    · exact .inl e
    · refine .inr fun e2 => ?_
      obtain ⟨g, hg2⟩ := Option.ne_none_iff_exists'.1 e
      obtain ⟨_, cur, hb2⟩ := row_block h hg2
      rw [hg2] at e2
      injection e2 with e2
      subst e2
      rw [hb] at hb2
      injection hb2 with hb2
      injection hb2 with _ hb2 _
      exact hne hb2)
theorem HvK.other {b : Nat} {c : Array Value} {t : TypeId} (h : HvK w R base v E bs L) (hb : w.heap[b]? = some (.cells c t (0, 0))) (h1 : t ≠ 79) (h2 : t ≠ 23) (hg : w.grownBy w' (some b)) : HvK w' R base v E bs L := by
  obtain ⟨bl, vs, q1, q2, q3⟩ := h
  exact ⟨bl, vs, q1, own_other q2 hb h1 hg, fun c hc => ⟨own_other (q3 c hc).1 hb h2 hg, (q3 c hc).2⟩⟩
theorem HvK.lie (h : HvK w R base v E bs L) : ∃ (la : Option Addr) (n c : Nat) (va : Nat → Option Addr) (ln vc : Nat → Nat), v = heapV E (.slice la n c) (fun c => .slice (va c) (ln c) (vc c)) ∧ bs.length = n := by
  obtain ⟨b, vs, rfl, h2, h3⟩ := h
  obtain ⟨la, c, rfl, _⟩ := h2.at_
  obtain ⟨va, ln, vc, e, _⟩ := heap_lie (E := E) (b := .slice la bs.length c) fun c hc => (h3 c hc).1
  exact ⟨la, _, c, va, ln, vc, e, rfl⟩
end
end Go.Proofs.YtcngmkfpbcemjaaGreat
