/-
  Texts of one layer, one behind the other: memory, contracts of the functions, and what follows of them.
  Conditions: as each theorem says.
-/
import Derived.Test.YtcngmkfpbcemjaaGreatRelO
import Derived.Test.YtcngmkfpbcemjaaGreatLClb
import Derived.Test.YtcngmkfpbcemjaaGreatLRej
import Derived.Laws.StructEq
set_option linter.unusedVariables false
set_option linter.unusedSimpArgs false
namespace Go.Proofs.YtcngmkfpbcemjaaGreat
open Go.RowKit
set_option maxRecDepth 100000
section
variable {f : Nat → Nat} {E : Nat} {bs A C : List Blk} {b : Blk} {L L' : Nat → List Nat} {p i k : Nat}
def sumB (bs : List Blk) : Nat → Nat
  | 0 => 0
  | k + 1 => sumB bs k + gS bs k
theorem sumB_told {off e : Nat} (h : Told f E off bs e) : ∀ k, k ≤ bs.length → sumB bs k ≤ e - off ∧ (k = bs.length → off + sumB bs k = e) := by
  have key : ∀ (bs : List Blk) (off : Nat), Told f E off bs e → off + sumB bs bs.length = e := by
    intro bs
    induction bs with
    | nil => exact fun off h => h
    | cons b r ih =>
      intro off h
      obtain ⟨h1, h2, h3⟩ := h
      have hs : ∀ k, sumB (b :: r) (k + 1) = b.s + sumB r k := by
        intro k
        induction k with
        | zero => show sumB (b :: r) 0 + gS (b :: r) 0 = b.s + 0; show 0 + b.s = _; omega
        | succ k ihk =>
          show sumB (b :: r) (k + 1) + gS (b :: r) (k + 1) = b.s + (sumB r k + gS r k)
          rw [ihk, show gS (b :: r) (k + 1) = gS r k from rfl]
          omega
      rw [List.length_cons, hs]
      have := ih _ h3
      omega
  have mono : ∀ k, k ≤ bs.length → sumB bs k ≤ sumB bs bs.length := by
    intro k hk
    obtain ⟨d, hd⟩ : ∃ d, bs.length = k + d := ⟨bs.length - k, by omega⟩
    rw [hd]
    clear hd hk
    induction d with
    | zero => exact Nat.le_refl _
    | succ d ih => exact Nat.le_trans ih (Nat.le_add_right _ _)
  intro k hk
  have h1 := key bs off h
  have h2 := mono k hk
  exact ⟨by omega, fun e => by rw [e]; exact h1⟩
theorem mg_all : ∀ {bs : List Blk}, Mg bs → ∀ j, j < bs.length → 1 ≤ j → ¬ (gU bs (j - 1) = false ∧ gU bs j = false)
  | [], _, j, hj, _ => absurd hj (Nat.not_lt_zero _)
  | [_], _, j, hj, h1 => by simp at hj; omega
  | b :: c :: r, h, j, hj, h1 => by
    obtain ⟨h2, h3⟩ := h
    cases j with
    | zero => omega
    | succ j =>
      cases j with
      | zero =>
        rintro ⟨q1, q2⟩
        have q1' : b.u = false := q1
        have q2' : c.u = false := q2
        rw [q1', q2'] at h2
        simp at h2
      | succ j =>
        have := mg_all h3 (j + 1) (by simpa using hj) (by omega)
        exact this
theorem mg_merged (h : Mg bs) : mergedL bs = true := (merged_yes rfl (mg_all h)).symm
theorem all_free (h : SoundF f 4800 bs L) (hu : usedB bs = []) : bs = [freeB 3776 1024] := by
  have hT := h.told
  have hf : ∀ x ∈ bs, x.u = false := fun x hx => by
    cases e : x.u with
    | false => rfl
    | true =>
      have : x.off ∈ usedB bs := usedB_mem.2 ⟨x, hx, e, rfl⟩
      rw [hu] at this
      cases this
  match bs, hT, hf, h.merged, h.frees0 with
  | [], hT, _, _, _ => exact absurd (show (3776 : Nat) = 4800 from hT) (by decide)
  | [b], hT, hf, _, h0 =>
    obtain ⟨h1, _, h3⟩ := hT
    have h3' : 3776 + b.s = 4800 := h3
    obtain ⟨z1, z2⟩ := h0 b (by simp) (hf b (by simp))
    have hbu := hf b (by simp)
    obtain ⟨x0, x1, x2, x3, x4⟩ := b
    simp only at h1 h3' z1 z2 hbu
    rw [h1, z1, z2, hbu, show x1 = 1024 by omega]
    rfl
  | b :: c :: r, _, hf, hm, _ =>
    rcases hm.1 with h1 | h1
    · rw [hf b (by simp)] at h1; cases h1
    · rw [hf c (by simp)] at h1; cases h1
theorem no_lists (h : SoundF f E bs L) (hu : usedB bs = []) {c : Nat} (hc : c < 8) : L c = [] := by
  cases e : L c with
  | nil => rfl
  | cons x r =>
    have := h.ledg.on c hc x (by rw [e]; simp)
    rw [hu] at this
    cases this
theorem SoundF.lists (h : SoundF f E bs L) (hl : ∀ c, c < 8 → L c = L' c) : SoundF f E bs L' :=
  ⟨h.head, h.top, h.low, h.told, h.merged, h.tree, ⟨fun c hc => by rw [← hl c hc]; exact h.ledg.on c hc, fun c hc => by rw [← hl c hc]; exact h.ledg.once c hc, fun c d hc hd => by rw [← hl c hc, ← hl d hd]; exact h.ledg.apart c d hc hd, fun c hc => by rw [← hl c hc]; exact h.ledg.head c hc, fun c hc => by rw [← hl c hc]; exact h.ledg.strung c hc⟩, fun b hb hu c hc => by rw [← hl c hc]; exact h.whose b hb hu c hc⟩
theorem used_amid (A C : List Blk) (b : Blk) : (usedB (A ++ b :: C)).length = (usedB A).length + (if b.u = true then 1 else 0) + (usedB C).length := by
  rw [usedB_append, show b :: C = [b] ++ C from rfl, usedB_append]
  unfold usedB
  by_cases hu : b.u = true
  · simp [hu]; omega
  · simp [hu]
theorem fr_eq (h : SoundF f E bs L) (hf : fstN (pF p) bs = some i) : frB bs p = lftA (bs.take i) ++ freeB (lowA (bs.take i) (bs.getD i default).off) (addA (bs.take i) + (bs.getD i default).s + addC (bs.drop (i + 1))) :: rgtC (bs.drop (i + 1)) := by
  obtain ⟨hi, hu, _⟩ := pF_some hf
  have hbs := bs_amid hi
  have hm := h.merged
  have hz := h.frees0
  unfold frB
  rw [hf]
  dsimp only
  unfold gO gS
  obtain ⟨b, hb⟩ : ∃ b, bs.getD i default = b := ⟨_, rfl⟩
  obtain ⟨A, hA⟩ : ∃ A, bs.take i = A := ⟨_, rfl⟩
  obtain ⟨C, hC⟩ : ∃ C, bs.drop (i + 1) = C := ⟨_, rfl⟩
  rw [hb, hA, hC] at hbs ⊢
  rw [hbs] at hm hz
  exact join_free hm fun x hx => hz x (by simp [hx])
theorem fr_used (h : SoundF f E bs L) (hf : fstN (pF p) bs = some i) : (usedB (frB bs p)).length + 1 = (usedB bs).length := by
  obtain ⟨hi, hu, _⟩ := pF_some hf
  have hbs := bs_amid hi
  have h1 : (usedB bs).length = (usedB (bs.take i ++ bs.getD i default :: bs.drop (i + 1))).length := congrArg (fun l => (usedB l).length) hbs
  rw [h1, fr_eq h hf, used_amid, used_amid, if_pos hu, if_neg (by unfold freeB; simp), (free_used (A := bs.take i) (C := bs.drop (i + 1))).1, (free_used (A := bs.take i) (C := bs.drop (i + 1))).2]
  omega
theorem pay_some (h : SoundF f E bs L) (a : Nat) (hu : usedB bs ≠ []) : ∃ i, fstN (pF (payB bs a)) bs = some i := by
  have hl : 0 < (payL bs).length := by
    unfold payL
    rw [List.length_map]
    exact List.length_pos_iff.2 hu
  have hm : payB bs a ∈ payL bs := by
    unfold payB
    rw [List.getD_eq_getElem?_getD, List.getElem?_eq_getElem (Nat.mod_lt _ hl)]
    exact List.getElem_mem _
  unfold payL at hm
  obtain ⟨x, hx, e⟩ := List.mem_map.1 hm
  obtain ⟨b, hb, hbu, rfl⟩ := usedB_mem.1 hx
  have hbi := h.told.is b hb
  have := hbi.hi
  have := h.low
  cases hf : fstN (pF (payB bs a)) bs with
  | some i => exact ⟨i, rfl⟩
  | none =>
    obtain ⟨j, hj, ej⟩ := List.mem_iff_getElem.1 hb
    have := fstN_none hf j hj
    rw [List.getD_eq_getElem?_getD, List.getElem?_eq_getElem hj, Option.getD_some, ej] at this
    unfold pF at this
    rw [hbu, ← e, decide_eq_true (by omega)] at this
    cases this
theorem pay_none (a : Nat) (hu : usedB bs = []) : payB bs a = 0 ∧ fstN (pF 0) bs = none := by
  constructor
  · unfold payB payL
    rw [hu]
    simp
  · refine fstN_not fun j hj => ?_
    unfold pF
    have : (bs.getD j default).u = false := by
      cases e : (bs.getD j default).u with
      | false => rfl
      | true =>
        have : (bs.getD j default).off ∈ usedB bs := usedB_mem.2 ⟨_, getB_mem hj, e, rfl⟩
        rw [hu] at this
        cases this
    rw [this]
    rfl
theorem take_used (owner n a : Nat) : (usedB (tkB bs owner n a)).length ≤ (usedB bs).length + 1 := by
  unfold tkB
  cases hf : fitM bs n a with
  | none => dsimp only; omega
  | some i =>
    obtain ⟨hi, hu, _, _⟩ := fitM_is hf
    have hbs := bs_amid hi
    have h1 : (usedB bs).length = (usedB (bs.take i ++ bs.getD i default :: bs.drop (i + 1))).length := congrArg (fun l => (usedB l).length) hbs
    dsimp only
    rw [h1, take_eq, usedB_append, usedB_append, cut_used, used_amid, if_neg (by rw [hu]; decide)]
    simp only [List.length_append, List.length_cons, List.length_nil]
    omega
theorem ct_eq (h : SoundF f E bs L) (hf : fstN (pF p) bs = some i) (hk : cutOk (bs.getD i default) k ∧ k + 48 ≤ (bs.getD i default).s) : ctB bs p k = bs.take i ++ (⟨(bs.getD i default).off, k, true, (bs.getD i default).o, (bs.getD i default).n⟩ :: freeB ((bs.getD i default).off + k) ((bs.getD i default).s - k + addC (bs.drop (i + 1))) :: rgtC (bs.drop (i + 1))) := by
  obtain ⟨hi, hu, _⟩ := pF_some hf
  have hbs := bs_amid hi
  have hm := h.merged
  unfold ctB
  rw [hf]
  dsimp only
  unfold gO gS gU gW gN
  rw [if_pos hk]
  obtain ⟨b, hb⟩ : ∃ b, bs.getD i default = b := ⟨_, rfl⟩
  obtain ⟨A, hA⟩ : ∃ A, bs.take i = A := ⟨_, rfl⟩
  obtain ⟨C, hC⟩ : ∃ C, bs.drop (i + 1) = C := ⟨_, rfl⟩
  rw [hb, hA, hC] at hbs ⊢
  rw [hb] at hu
  rw [hbs] at hm
  rw [hu]
  exact join_cut hm rfl
theorem ct_same (hf : fstN (pF p) bs = some i) (hk : ¬ (cutOk (bs.getD i default) k ∧ k + 48 ≤ (bs.getD i default).s)) : ctB bs p k = bs := by
  unfold ctB
  rw [hf]
  dsimp only
  unfold gS
  rw [if_neg hk]
theorem free_used11 (h : SoundF f E bs L) (p : Nat) : (usedB (frB bs p)).length ≤ (usedB bs).length := by
  cases hf : fstN (pF p) bs with
  | none => unfold frB; rw [hf]; exact Nat.le_refl _
  | some i => have := fr_used h hf; omega
theorem free_less (h : SoundF f E bs L) (a : Nat) : (usedB (frB bs (payB bs a))).length = (usedB bs).length - 1 := by
  by_cases hu : usedB bs = []
  · have := free_used11 h (payB bs a)
    rw [hu] at this ⊢
    simp at this ⊢
    exact this
  · obtain ⟨i, hi⟩ := pay_some h a hu
    have := fr_used h hi
    omega
theorem fst_split {A C : List Blk} {q : Blk} {p : Nat} (hq : pF p q = true) (hA : ∀ x ∈ A, pF p x = false) : fstN (pF p) (A ++ q :: C) = some A.length := by
  refine fstN_is (by simp) (by rw [List.getD_eq_getElem?_getD, List.getElem?_append_right (Nat.le_refl _), Nat.sub_self]; exact hq) fun j hj => ?_
  rw [List.getD_eq_getElem?_getD, List.getElem?_append_left hj, List.getElem?_eq_getElem hj]
  exact hA _ (List.getElem_mem _)
theorem pad16 {off : Nat} (h : off % 16 = 0) : padN off 16 = 0 := by
  unfold padN
  rw [if_pos (by omega)]
theorem take_free (h : SoundF f E bs L) {n owner : Nat} (ho : owner ≤ 8) (hf : fitM bs n 16 = some i) (hs : SoundF (fun x => x) E bs L ∨ True) :
    let B := takeB bs i (padN (gO bs i) 16) (needOf n) owner n
    let p := gO bs i + padN (gO bs i) 16 + 32
    ∀ g, SoundF g E B (takeL L owner (gO bs i + padN (gO bs i) 16)) → frE B p = 0 ∧ frB B p = bs ∧ (∀ c, c < 8 → frL B (takeL L owner (gO bs i + padN (gO bs i) 16)) p c = L c) ∧ frE bs p = 4 := by
  intro B p g hg
  obtain ⟨hi, hu, hnd, hpn⟩ := fitM_is hf
  have hbi := h.told.is _ (getB_mem hi)
  have hal := hbi.al
  have hp0 : padN (gO bs i) 16 = 0 := pad16 hal
  have hbs := bs_amid hi
  have hlo := hbi.lo
  have hhi := hbi.hi
  have hlow := h.low
  obtain ⟨z1, z2⟩ := h.frees0 _ (getB_mem hi) hu
  have hnb := need_bounds n
  have hm := h.merged
  have hz := h.frees0
  have hle := h.told.apart
  have hon := h.ledg.on
  have hgm := hg.merged
  have hgz := hg.frees0
  have htold := h.told
  have hB : B = bs.take i ++ (cutB (bs.getD i default) 0 (needOf n) owner n ++ bs.drop (i + 1)) := by
    show takeB bs i (padN (gO bs i) 16) (needOf n) owner n = _
    rw [hp0, take_eq]
  have hp : p = (bs.getD i default).off + 32 := by
    show gO bs i + padN (gO bs i) 16 + 32 = _
    rw [hp0]
    rfl
  have hL : takeL L owner (gO bs i + padN (gO bs i) 16) = takeL L owner (bs.getD i default).off := by rw [hp0]; rfl
  have hti : (bs.take i).length = i := by rw [List.length_take]; omega
  rw [hL]
  rw [hB] at hgm hgz ⊢
  rw [hp]
  clear hB hp hL hg hp0
  obtain ⟨b, hb⟩ : ∃ b, bs.getD i default = b := ⟨_, rfl⟩
  obtain ⟨A, hA⟩ : ∃ A, bs.take i = A := ⟨_, rfl⟩
  obtain ⟨C, hC⟩ : ∃ C, bs.drop (i + 1) = C := ⟨_, rfl⟩
  rw [hb, hA, hC] at hbs hgm hgz
  rw [hb] at hu hnd hpn hal hlo hhi z1 z2 hbi
  rw [hA] at hti
  rw [hb, hA, hC]
  obtain ⟨sz, hsz⟩ : ∃ sz, (if b.s - 0 - needOf n < 48 then b.s - 0 else needOf n) = sz := ⟨_, rfl⟩
  obtain ⟨rest, hrest⟩ : ∃ rest, (if b.s - 0 - needOf n < 48 then [] else [freeB (b.off + 0 + needOf n) (b.s - 0 - needOf n)]) = rest := ⟨_, rfl⟩
  have hcut : cutB b 0 (needOf n) owner n = ⟨b.off, sz, true, owner, n⟩ :: rest := by
    unfold cutB
    rw [if_pos rfl, hsz, hrest]
    rfl
  rw [hcut, List.cons_append] at hgm hgz ⊢
  have hAC : ∀ x ∈ A, x.off ≠ b.off := fun x hx e => by
    rw [hbs] at hle
    have := (List.pairwise_append.1 hle).2.2 x hx b (by simp)
    have hxs := (htold.is x (by rw [hbs]; simp [hx])).size
    omega
  have hfA : ∀ x ∈ A, pF (b.off + 32) x = false := fun x hx => by
    unfold pF
    have hx2 := htold.is x (by rw [hbs]; simp [hx])
    have := hx2.hi
    have := hAC x hx
    rw [decide_eq_false (by omega), Bool.and_false]
  have hfq : pF (b.off + 32) ⟨b.off, sz, true, owner, n⟩ = true := by
    unfold pF
    simp only [Bool.true_and]
    exact decide_eq_true (by omega)
  have hpl := fst_split (C := rest ++ C) hfq hfA
  have hget : (A ++ (⟨b.off, sz, true, owner, n⟩ : Blk) :: (rest ++ C)).getD A.length default = ⟨b.off, sz, true, owner, n⟩ := by rw [List.getD_eq_getElem?_getD, List.getElem?_append_right (Nat.le_refl _), Nat.sub_self]; rfl
  have htk : (A ++ (⟨b.off, sz, true, owner, n⟩ : Blk) :: (rest ++ C)).take A.length = A := by simp
  have hdr : (A ++ (⟨b.off, sz, true, owner, n⟩ : Blk) :: (rest ++ C)).drop (A.length + 1) = rest ++ C := by simp
  refine ⟨?_, ?_, fun c hc => ?_, ?_⟩
  · unfold frE
    rw [hpl]
  · unfold frB
    rw [hpl]
    dsimp only
    unfold gO gS
    rw [hget, htk, hdr]
    rw [join_free (b := ⟨b.off, sz, true, owner, n⟩) hgm fun x hx => hgz x (by simp [hx])]
    have hmA := mg_append.1 (hbs ▸ hm)
    have hlast : ∀ q, A.getLast? = some q → q.u = true := fun q hq => (hmA.2.2 q b hq rfl).resolve_right (by rw [hu]; decide)
    have hlA : lftA A = A ∧ lowA A b.off = b.off ∧ addA A = 0 := by
      rcases left_cases A b.off with ⟨e1, e2, e3, _⟩ | ⟨Z, q, e0, hq, _⟩
      · exact ⟨e1, e2, e3⟩
      · have := hlast q (by rw [e0, List.getLast?_concat])
        rw [hq] at this
        cases this
    have hhead : ∀ c, C.head? = some c → c.u = true := fun c hc => by
      cases C with
      | nil => cases hc
      | cons d r =>
        rw [List.head?_cons] at hc
        injection hc with hc
        rw [← hc]
        exact (mg_cons.1 hmA.2.1).1.resolve_left (by rw [hu]; decide)
    have hCn : rgtC C = C ∧ addC C = 0 := by
      rcases right_cases C with ⟨e1, e2, _⟩ | ⟨c, r, e0, hc, _⟩
      · exact ⟨e1, e2⟩
      · have := hhead c (by rw [e0]; rfl)
        rw [hc] at this
        cases this
    have hbf : freeB b.off b.s = b := by
      obtain ⟨x0, x1, x2, x3, x4⟩ := b
      simp only at hu z1 z2
      rw [hu, z1, z2]
      rfl
    dsimp only
    rw [hlA.1, hlA.2.1, hlA.2.2, Nat.zero_add]
    by_cases hr : b.s - 0 - needOf n < 48
    · rw [if_pos hr] at hsz hrest
      rw [← hsz, ← hrest, List.nil_append, hCn.1, hCn.2, Nat.sub_zero, Nat.add_zero, hbf, ← hbs]
    · rw [if_neg hr] at hsz hrest
      rw [← hsz, ← hrest]
      have e1 : rgtC ([freeB (b.off + 0 + needOf n) (b.s - 0 - needOf n)] ++ C) = C := by
        show (if (freeB (b.off + 0 + needOf n) (b.s - 0 - needOf n)).u = true then freeB (b.off + 0 + needOf n) (b.s - 0 - needOf n) :: C else C) = C
        rw [if_neg (by unfold freeB; simp)]
      have e2 : addC ([freeB (b.off + 0 + needOf n) (b.s - 0 - needOf n)] ++ C) = b.s - 0 - needOf n := by
        show (if (freeB (b.off + 0 + needOf n) (b.s - 0 - needOf n)).u = true then 0 else (freeB (b.off + 0 + needOf n) (b.s - 0 - needOf n)).s) = _
        rw [if_neg (by unfold freeB; simp)]
        rfl
      rw [e1, e2, show needOf n + (b.s - 0 - needOf n) = b.s by omega, hbf, ← hbs]
  · unfold frL
    rw [hpl]
    dsimp only
    rw [hget]
    unfold lstB takeL
    dsimp only
    by_cases h0 : owner = 0
    · rw [if_pos h0, if_pos (by omega)]
    · rw [if_neg h0, if_neg (by omega), show ((owner : Int).toNat - 1) = owner - 1 by omega]
      have hn : b.off ∉ L (owner - 1) := fun hx => by
        obtain ⟨y, hy, hyu, hyo⟩ := usedB_mem.1 (hon (owner - 1) (by omega) _ hx)
        have := htold.one hy (by rw [hbs]; simp) hyo
        rw [this, hu] at hyu
        cases hyu
      rw [last_back hn]
  · unfold frE
    have : fstN (pF (b.off + 32)) bs = none := fstN_not fun j hj => by
      unfold pF
      have hx := getB_mem hj
      have hx2 := (htold.is _ hx).hi
      by_cases e : (bs.getD j default).off = b.off
      · have := htold.one hx (show b ∈ bs by rw [hbs]; simp) e
        rw [this, hu]
        rfl
      · rw [decide_eq_false (by omega), Bool.and_false]
    rw [this]
theorem ct_find (h : SoundF f E bs L) (hf : fstN (pF p) bs = some i) (k : Nat) : fstN (pF p) (ctB bs p k) = some i ∧ (ctB bs p k).getD i default = if cutOk (bs.getD i default) k ∧ k + 48 ≤ (bs.getD i default).s then ⟨(bs.getD i default).off, k, true, (bs.getD i default).o, (bs.getD i default).n⟩ else bs.getD i default := by
  by_cases hk : cutOk (bs.getD i default) k ∧ k + 48 ≤ (bs.getD i default).s
  · obtain ⟨hi, hu, hp⟩ := pF_some hf
    have hti : (bs.take i).length = i := by rw [List.length_take]; omega
    rw [ct_eq h hf hk, if_pos hk]
    have h1 : pF p ⟨(bs.getD i default).off, k, true, (bs.getD i default).o, (bs.getD i default).n⟩ = true := by
      unfold pF
      simp only [Bool.true_and]
      exact decide_eq_true hp
    have h2 := fst_split (C := freeB ((bs.getD i default).off + k) ((bs.getD i default).s - k + addC (bs.drop (i + 1))) :: rgtC (bs.drop (i + 1))) h1 (A := bs.take i) fun x hx => by
      obtain ⟨j, hj, e⟩ := List.mem_iff_getElem.1 hx
      have hj' : j < i := by rw [hti] at hj; exact hj
      have := fstN_skip hf j hj'
      rw [List.getD_eq_getElem?_getD, List.getElem?_eq_getElem (by omega), Option.getD_some] at this
      rw [← e, List.getElem_take]
      exact this
    rw [hti] at h2
    refine ⟨h2, ?_⟩
    rw [List.getD_eq_getElem?_getD, List.getElem?_append_right (by omega), hti, Nat.sub_self]
    rfl
  · rw [ct_same hf hk, if_neg hk]
    exact ⟨hf, rfl⟩
end
end Go.Proofs.YtcngmkfpbcemjaaGreat
namespace Go.Proofs.YtcngmkfpbcemjaaGreat
open Go.RowKit
set_option maxRecDepth 100000
abbrev three : Array Value := #[.int .u8 0, .int .u8 1, .int .u8 0, .int .u16 8, .int .u8 0, .int .u8 2, .int .u8 0, .int .u16 8, .int .u8 2, .int .u8 0, .int .u8 0, .int .u16 0]
def xA (i : Nat) : Nat := if i = 2 then 2 else 0
def oA (i : Nat) : Nat := if i = 0 then 1 else if i = 1 then 2 else 0
def nA (i : Nat) : Nat := if i < 2 then 8 else 0
theorem deeds_three (w : World) : DoneAt (w.alloc (.cells three 66)) (some ⟨w.heap.size, 0, none⟩) 3 xA oA (fun _ => 0) nA := by
  have h := heap_alloc_new' w (.cells three 66)
  refine ⟨fun i => ?_, fun _ => ⟨_, 0, rfl, lt_of_block h, fun i hi => ?_⟩⟩
  · unfold xA oA nA
    refine ⟨?_, ?_, by decide, ?_⟩
    · split <;> decide
    · split
      · decide
      · split <;> decide
    · split <;> decide
  · have hi3 : i = 0 ∨ i = 1 ∨ i = 2 := by omega
    rcases hi3 with rfl | rfl | rfl <;> (unfold World.cell?; simp only [h]; exact ⟨rfl, rfl, rfl, rfl⟩)
theorem ds_three : (dS xA oA (fun _ => 0) nA (min 3 25)).1 = [freeB 3776 48, ⟨3824, 48, true, 2, 8⟩, freeB 3872 928] := by decide
theorem fr_three : frE [freeB 3776 48, ⟨3824, 48, true, 2, 8⟩, freeB 3872 928] 3856 = 0 ∧ frB [freeB 3776 48, ⟨3824, 48, true, 2, 8⟩, freeB 3872 928] 3856 = [freeB 3776 1024] := by decide
set_option maxHeartbeats 4000000 in
theorem awake11 (w : World) : Calls Tryz.prog 9 #[] w fun e w' => e = .returned (.bool true) ∧ w.grownBy w' none := by
  have hpl : ∀ w : World, Calls Tryz.prog 10 #[.slice (some ⟨w.heap.size, 0, none⟩) 3 3] (w.alloc (.cells three 66)) _ := fun w => played11_any (c := 3) (deeds_three w) (by decide)
  rw [ds_three] at hpl
  obtain ⟨L, hL⟩ : ∃ L, (dS xA oA (fun _ => 0) nA (min 3 25)).2 = L := ⟨_, rfl⟩
  rw [hL] at hpl
  clear hL
  obtain ⟨bs, hbs⟩ : ∃ bs, ([freeB 3776 48, ⟨3824, 48, true, 2, 8⟩, freeB 3872 928] : List Blk) = bs := ⟨_, rfl⟩
  have hf := fr_three
  have hlen : bs.length = 3 := by rw [← hbs]; rfl
  rw [hbs] at hpl hf
  clear hbs
  have hfr : ∀ (V W0 : World) (T : Nat) (R : Option Nat), HW W0 V T R (fmt48 4800) 4800 bs L → Calls Tryz.prog 14 #[.pointer (some ⟨T, 0, none⟩), .int .u64 3856] V fun e w' => e = .returned (.int .i64 0) ∧ ∃ R', HW W0 w' T R' (fmt48 4800) 4800 [freeB 3776 1024] (frL bs L 3856) ∧ Keep V R w' R' := fun V W0 T R h => by
    have := fr_code h 3856
    rw [hf.1, hf.2] at this
    exact this
  have hwk : ∀ (V W0 : World) (T : Nat) (R : Option Nat), HW W0 V T R (fmt48 4800) 4800 [freeB 3776 1024] (frL bs L 3856) → Calls Tryz.prog 20 #[.pointer (some ⟨T, 0, none⟩)] V fun e w' => ∃ v, e = .returned (.tuple #[v, .int .i64 0]) ∧ OwnB w' V.heap.size 56 v [freeB 3776 1024] ∧ V.grownBy w' none := fun V W0 T R h => hw_walk h
  have hg0 := World.grownBy_alloc w (.cells three 66) none
  have HLN := Lib.hid hlen
  clear hf hlen
  obtain ⟨E, hE⟩ : ∃ E : Nat, 4800 = E := ⟨_, rfl⟩
  go_enter Tryz.func9, Tryz.ntmps9
  go_wp2_with (first
    | (go_at_call 10; ((with_reducible refine (hpl _).mono ?_); rintro e w2 ⟨T, R, v, rfl, H2, V2⟩; obtain ⟨la, n, c, va, ln, vc, hv, hn⟩ := V2.lie; rw [HLN.out] at hn; subst hn; subst hv; rw [hE]; have ga := World.grownBy_alloc w2 (.cells (hC E la 3 c va ln vc) 30) none; have B2 := heap_alloc_new' w2 (.cells (hC E la 3 c va ln vc) 30); have HB2 := Lib.hid B2; clear B2; have hfr1 := hfr _ _ _ _ (H2.later ga); simp only [heapV]))
    | (go_at_call 14; ((with_reducible refine hfr1.mono ?_); rintro e w3 ⟨rfl, R3, H3, K3⟩; have B3 := K3.far HB2.out (by decide) (by decide); obtain ⟨⟨x0, x1, x2, x3, x4, x5, x6, x7, x8, x9⟩, _⟩ := ten_cells B3; have HB3 := Lib.hid B3; clear B3; have hwk1 := hwk _ _ _ _ H3))
    | (go_at_call 20; ((with_reducible refine hwk1.mono ?_); rintro e w4 ⟨v4, rfl, O4, hg4⟩; obtain ⟨g, c4, hv4, _, _, _, hat⟩ := O4.spot (by decide); subst hv4; obtain ⟨_, z1, _, _, _⟩ := hat 0 (by decide); rw [show gS [freeB 3776 1024] 0 = 1024 from rfl] at z1; have B4 := (hg4.block _ (lt_of_block HB3.out) (by simp)).trans HB3.out; obtain ⟨⟨x0, x1, x2, x3, x4, x5, x6, x7, x8, x9⟩, _⟩ := ten_cells B4; clear hat B4)))
  go_ret
  exact ⟨rfl, grown_trans hg0 (grown_trans H3.since hg4)⟩
end Go.Proofs.YtcngmkfpbcemjaaGreat
namespace Go.Proofs.YtcngmkfpbcemjaaGreat
open Go.ChangeShapes Go.WideShapes Go.ChangeAt Go.RowKit
set_option maxRecDepth 100000
theorem used_one (b : Blk) : (usedB [b]).length = if b.u = true then 1 else 0 := by
  unfold usedB
  by_cases h : b.u = true
  · simp [h]
  · simp [h]
theorem used_joinS (out : List Blk) (b : Blk) : (usedB (joinS out b)).length = (usedB out).length + (if b.u = true then 1 else 0) := by
  unfold joinS
  cases hl : out.getLast? with
  | none =>
    dsimp only
    rw [usedB_append, List.length_append, used_one]
  | some p =>
    dsimp only
    by_cases h : p.u = false ∧ b.u = false
    · rw [if_pos h]
      have hne : out ≠ [] := by rintro rfl; cases hl
      have he : out = out.dropLast ++ [p] := by
        have h1 := List.dropLast_concat_getLast hne
        rw [List.getLast?_eq_some_getLast hne] at hl
        injection hl with hl
        rw [← hl, h1]
      have h2 : (usedB out).length = (usedB (out.dropLast ++ [p])).length := congrArg (fun l => (usedB l).length) he
      rw [h2, usedB_append, usedB_append, List.length_append, List.length_append, used_one, used_one]
      simp [h.1, h.2]
    · rw [if_neg h, usedB_append, List.length_append, used_one]
theorem used_fold : ∀ (l out : List Blk), (usedB (l.foldl joinS out)).length = (usedB out).length + (usedB l).length
  | [], out => by simp [usedB]
  | b :: l, out => by
    rw [List.foldl_cons, used_fold l, used_joinS, show b :: l = [b] ++ l from rfl, usedB_append, List.length_append, used_one]
    omega
theorem used_join (l : List Blk) : (usedB (joinB l)).length = (usedB l).length := by
  unfold joinB
  rw [used_fold]
  simp [usedB]
theorem free_most (bs : List Blk) (p : Nat) : (usedB (frB bs p)).length ≤ (usedB bs).length := by
  unfold frB
  cases hf : fstN (pF p) bs with
  | none => exact Nat.le_refl _
  | some i =>
    have hi := (pF_some hf).1
    have h1 : (usedB bs).length = (usedB (bs.take i ++ bs.getD i default :: bs.drop (i + 1))).length := congrArg (fun l => (usedB l).length) (bs_amid hi)
    dsimp only
    rw [used_join, used_amid, h1, used_amid]
    unfold freeB
    simp
theorem cut_most (bs : List Blk) (p k : Nat) : (usedB (ctB bs p k)).length ≤ (usedB bs).length := by
  unfold ctB
  cases hf : fstN (pF p) bs with
  | none => exact Nat.le_refl _
  | some i =>
    obtain ⟨hi, hu, _⟩ := pF_some hf
    have h1 : (usedB bs).length = (usedB (bs.take i ++ bs.getD i default :: bs.drop (i + 1))).length := congrArg (fun l => (usedB l).length) (bs_amid hi)
    dsimp only
    split
    · have h2 : ∀ (x : Blk) (o s : Nat), x.u = true → (usedB (x :: freeB o s :: bs.drop (i + 1))).length = 1 + (usedB (bs.drop (i + 1))).length := fun x o s hx => by
        have := used_amid [x] (bs.drop (i + 1)) (freeB o s)
        rw [used_one, if_pos hx, if_neg (by unfold freeB; simp)] at this
        exact this
      rw [used_join, usedB_append, List.length_append, h2 ⟨gO bs i, k, gU bs i, gW bs i, gN bs i⟩ _ _ hu, h1, used_amid, if_pos hu]
      omega
    · exact Nat.le_refl _
theorem deed_most (bs : List Blk) (x o a n : Nat) : (usedB (dB bs x o a n)).length ≤ (usedB bs).length + 1 := by
  unfold dB
  split
  · exact take_used _ _ _
  · split
    · have := free_most bs (payB bs a); omega
    · have := cut_most bs (payB bs a) (16 * (n % 20)); omega
theorem dS_used (X O A N : Nat → Nat) : ∀ k, (usedB (dS X O A N k).1).length ≤ k
  | 0 => Nat.le_refl _
  | k + 1 => by
    have h1 := dS_used X O A N k
    have h2 := deed_most (dS X O A N k).1 (X k) (O k) (A k) (N k)
    show (usedB (dB (dS X O A N k).1 (X k) (O k) (A k) (N k))).length ≤ k + 1
    omega
def DoneE (E : Nat) (w : World) (bs : List Blk) (L : Nat → List Nat) (e : Ending) (w' : World) : Prop :=
  ∃ (T : Nat) (R la : _) (n c : Nat) (va : Nat → Option Addr) (ln vc : Nat → Nat), e = .returned (.tuple #[.pointer (some ⟨T, 0, none⟩), .agg (hC E la n c va ln vc), .bool true]) ∧ HW w w' T R (fmt48 4800) E bs L ∧ HvK w' R w.heap.size (.agg (hC E la n c va ln vc)) E bs L
theorem plays {w : World} {la : Option Addr} {n c : Nat} {X O A N : Nat → Nat} (hp : DoneAt w la n X O A N) (hn : n ≤ maxLen) :
    ∃ E bs L, 4800 = E ∧ (usedB bs).length ≤ 25 ∧ ∀ V, w.grownBy V none → Calls Tryz.prog 10 #[.slice la n c] V (DoneE E V bs L) := by
  refine ⟨4800, (dS X O A N (min n 25)).1, (dS X O A N (min n 25)).2, rfl, ?_, fun V hg => (played11_any (c := c) (hp.later hg) hn).mono ?_⟩
  · have := dS_used X O A N (min n 25)
    omega
  · rintro e w' ⟨T, R, v, rfl, H, K⟩
    obtain ⟨l1, n1, c1, va, ln, vc, rfl, hn1⟩ := K.lie
    exact ⟨T, R, l1, n1, c1, va, ln, vc, rfl, H, K⟩
end Go.Proofs.YtcngmkfpbcemjaaGreat
