/-
  Texts of one layer, one behind the other: memory, contracts of the functions, and what follows of them.
  Conditions: as each theorem says.
-/
import Derived.Test.YtcbdbflgfhbikaaGreatLCae
import Derived.Test.YtcbdbflgfhbikaaGreatLTrh
import Derived.Test.YtcbdbflgfhbikaaGreatLClb
import Derived.Test.YtcbdbflgfhbikaaGreatCarIa
import Derived.Test.YtcbdbflgfhbikaaGreatCarIb
import Derived.Test.YtcbdbflgfhbikaaGreatCarIc
import Derived.Test.YtcbdbflgfhbikaaGreatLCai
import Derived.Test.YtcbdbflgfhbikaaGreatLCad
import Derived.BigQuiet
set_option linter.unusedVariables false
set_option linter.unusedSimpArgs false
namespace Go.Proofs.YtcbdbflgfhbikaaGreat
open Go.RowKit
theorem drop_getX {l : List Nat} {k y : Nat} (hk : k < l.length) (hy : l.getD k 0 = y) : y :: l.drop (k + 1) = l.drop k := by
  rw [List.getD_eq_getElem?_getD, List.getElem?_eq_getElem hk] at hy
  rw [List.drop_eq_getElem_cons hk]
  simp at hy
  rw [hy]
theorem gtx_next {z : Nat → Nat} {S : List Nat} {k : Nat} (hr : Rising z S) (hk : k < S.length) : gtL z (z (S.getD k 0)) (S.getD k 0) S = S.drop (k + 1) := by
  obtain ⟨y, hy⟩ : ∃ y, S.getD k 0 = y := ⟨_, rfl⟩
  rw [hy]
  have h1 : S = S.take k ++ y :: S.drop (k + 1) := by rw [drop_getX hk hy, List.take_append_drop]
  have h2 : Rising z (S.take k ++ y :: S.drop (k + 1)) := by rw [← h1]; exact hr
  have h3 := List.pairwise_append.1 h2
  have h4 := List.pairwise_cons.1 h3.2.1
  unfold gtL
  conv => lhs; rw [h1]
  rw [List.filter_append, List.filter_cons, if_neg (by unfold ltK; simp), List.filter_eq_nil_iff.2, List.nil_append, List.filter_eq_self.2]
  · intro x hx
    have h5 := h4.1 x hx
    rw [decide_eq_true_eq]
    unfold blkLt keyLt at h5
    unfold ltK
    omega
  · intro x hx
    have h5 := h3.2.2 x hx y (by simp)
    rw [decide_eq_true_eq]
    unfold blkLt keyLt at h5
    unfold ltK
    omega
theorem gtx_sub {z : Nat → Nat} {S : List Nat} {s o x : Nat} (hx : ltK s o (z x) x) : gtL z (z x) x S = gtL z (z x) x (gtL z s o S) := by
  unfold gtL
  rw [List.filter_filter]
  apply List.filter_congr
  intro y _
  rw [Bool.eq_iff_iff]
  simp only [Bool.and_eq_true, decide_eq_true_eq]
  constructor
  · intro h
    refine ⟨h, ?_⟩
    unfold ltK at *
    omega
  · exact fun h => h.1
theorem getD_drop1 {l : List Nat} {k : Nat} : (l.drop (k + 1)).getD 0 0 = l.getD (k + 1) 0 := by
  rw [List.getD_eq_getElem?_getD, List.getD_eq_getElem?_getD, List.getElem?_drop]
theorem few_lone {ls : List Nat} (h : Lone ls) : ls.length ≤ 4800 := few_places 4800 ls h.nodup fun x hx => by have := h.on x hx; omega
section
variable {w : World} {T M : Nat} {R : Option Nat} {B D : Nat} {ws : List Nat} {l : List (Nat × Nat)} {ls : List Nat} {bs : List Blk} {E : Nat}
theorem hung_after (h : Thinks w T M R B D ws l) (hws : 8 * ws.length = 4800) (hH : Hung (txSee ws l) ls) (s o : Nat) :
    Calls Tryz.prog 87 #[.pointer (some ⟨T, 0, none⟩), .int .u64 s, .int .u64 o] w fun e w' => e = .returned (.tuple #[.int .u64 ((gtL (fun x => tS (txSee ws l x)) s o (srtK (fun x => tS (txSee ws l x)) ls)).getD 0 0 : Nat), .bool (decide (0 < (gtL (fun x => tS (txSee ws l x)) s o (srtK (fun x => tS (txSee ws l x)) ls)).length))]) ∧ w.grownBy w' none := by
  have hG := hH.lone.free
  have hI := hH.is hG (fun x hx => upL_mem.2 hx)
  have hB : Bed ws l (fun x => tS (txSee ws l x)) (upL ls) := ⟨hG, hws, fun _ _ => rfl⟩
  exact tafter_any h hB hI.tame hI.tree (by rw [srtK_length]; have := few_lone hH.lone; omega) s o
def bigL (f : Nat → Nat) (ls : List Nat) (need : Nat) : List Nat := gtL (fun x => tS (f x)) need 0 (srtK (fun x => tS (f x)) ls)
theorem bigL_mem {f : Nat → Nat} {need x : Nat} (h0 : ∀ y ∈ ls, 0 < y) : x ∈ bigL f ls need ↔ x ∈ ls ∧ need ≤ tS (f x) := by
  unfold bigL gtL
  rw [List.mem_filter, srtK_mem, decide_eq_true_eq]
  constructor
  · rintro ⟨h1, h2⟩
    refine ⟨h1, ?_⟩
    unfold ltK at h2
    dsimp only at h2
    omega
  · rintro ⟨h1, h2⟩
    refine ⟨h1, ?_⟩
    have := h0 x h1
    unfold ltK
    dsimp only
    omega
theorem bigL_rising {f : Nat → Nat} {need : Nat} (hn : ls.Nodup) : Rising (fun x => tS (f x)) (bigL f ls need) := (srtK_rising hn).filter _
theorem index_mu {xs : List Nat} (hn : xs.Nodup) (h0 : ∀ y ∈ xs, 0 < y) : ∃ mu : Nat → Nat, ∀ k, k ≤ xs.length → mu (xs.getD k 0) = xs.length - k := by
  refine ⟨fun v => xs.length - xs.idxOf v, fun k hk => ?_⟩
  dsimp only
  rcases Nat.lt_or_ge k xs.length with h | h
  · rw [List.getD_eq_getElem?_getD, List.getElem?_eq_getElem h]
    simp only [Option.getD_some]
    rw [hn.idxOf_getElem]
  · have e : xs.getD k 0 = 0 := by rw [List.getD_eq_getElem?_getD, List.getElem?_eq_none (by omega)]; rfl
    rw [e, List.idxOf_eq_length fun hm => absurd (h0 0 hm) (by decide)]
    omega
theorem free_tells (h : Thinks w T M R B D ws l) (hws : 8 * ws.length = 4800) (hH : Hung (txSee ws l) ls) (need : Nat) :
    FreeT w (.pointer (some ⟨T, 0, none⟩)) need (bigL (txSee ws l) ls need) (fun x => tS (txSee ws l x)) := by
  have h0 : ∀ y ∈ ls, 0 < y := fun y hy => by have := hH.lone.on y hy; omega
  have hr := bigL_rising (f := txSee ws l) (need := need) hH.lone.nodup
  have hm : ∀ k, k < (bigL (txSee ws l) ls need).length → (bigL (txSee ws l) ls need).getD k 0 ∈ bigL (txSee ws l) ls need := fun k hk => by
    rw [List.getD_eq_getElem?_getD, List.getElem?_eq_getElem hk]
    exact List.getElem_mem _
  refine ⟨fun V hg => hung_after (h.later hg) hws hH need 0, fun V k hg hk => ?_, fun V k hg hk => ?_, ?_, index_mu hr.nodup fun y hy => h0 y ((bigL_mem h0).1 hy).1⟩
  · have := hH.lone.on _ ((bigL_mem h0).1 (hm k hk)).1
    exact csize_any (h.later hg) _ (by omega)
  · have hx := (bigL_mem h0).1 (hm k hk)
    have := hung_after (h.later hg) hws hH (tS (txSee ws l ((bigL (txSee ws l) ls need).getD k 0))) ((bigL (txSee ws l) ls need).getD k 0)
    have hlt : ltK need 0 (tS (txSee ws l ((bigL (txSee ws l) ls need).getD k 0))) ((bigL (txSee ws l) ls need).getD k 0) := by
      have := h0 _ hx.1
      unfold ltK
      omega
    have e1 := gtx_sub (z := fun x => tS (txSee ws l x)) (S := srtK (fun x => tS (txSee ws l x)) ls) hlt
    have e2 : gtL (fun x => tS (txSee ws l x)) (tS (txSee ws l ((bigL (txSee ws l) ls need).getD k 0))) ((bigL (txSee ws l) ls need).getD k 0) (srtK (fun x => tS (txSee ws l x)) ls) = (bigL (txSee ws l) ls need).drop (k + 1) := e1.trans (gtx_next hr hk)
    rw [e2, getD_drop1, List.length_drop] at this
    have e3 : decide (0 < (bigL (txSee ws l) ls need).length - (k + 1)) = decide (k + 1 < (bigL (txSee ws l) ls need).length) := by rw [Bool.eq_iff_iff, decide_eq_true_eq, decide_eq_true_eq]; omega
    rw [e3] at this
    exact this
  · have := few_lone hH.lone
    have h2 : (bigL (txSee ws l) ls need).length ≤ (srtK (fun x => tS (txSee ws l x)) ls).length := List.length_filter_le _ _
    rw [srtK_length] at h2
    omega
theorem Told.rise {f : Nat → Nat} {o e : Nat} (h : Told f E o bs e) {i j : Nat} (hij : i < j) (hj : j < bs.length) : (bs.getD i default).off < (bs.getD j default).off := by
  have hp := List.pairwise_iff_getElem.1 h.apart i j (by omega) hj hij
  have hs := (h.is _ (List.getElem_mem (show i < bs.length by omega))).size
  rw [List.getD_eq_getElem?_getD, List.getD_eq_getElem?_getD, List.getElem?_eq_getElem hj, List.getElem?_eq_getElem (show i < bs.length by omega)]
  simp only [Option.getD_some]
  omega
theorem getB_mem {i : Nat} (hi : i < bs.length) : bs.getD i default ∈ bs := by
  rw [List.getD_eq_getElem?_getD, List.getElem?_eq_getElem hi]
  exact List.getElem_mem _
theorem freesB_at {x : Nat} : x ∈ freesB bs ↔ ∃ i, i < bs.length ∧ (bs.getD i default).u = false ∧ (bs.getD i default).off = x := by
  rw [freesB_mem]
  constructor
  · rintro ⟨b, hb, hu, ho⟩
    obtain ⟨i, hi, rfl⟩ := List.mem_iff_getElem.1 hb
    refine ⟨i, hi, ?_⟩
    rw [List.getD_eq_getElem?_getD, List.getElem?_eq_getElem hi]
    exact ⟨hu, ho⟩
  · rintro ⟨i, hi, hu, ho⟩
    exact ⟨_, getB_mem hi, hu, ho⟩
theorem best_of {f : Nat → Nat} (hF : HeapF f E bs) {need a : Nat} {e : Ending} (hf : FitT (fun k => (bigL f (freesB bs) need).getD k 0) (fun k => szAt (fun x => tS (f x)) (bigL f (freesB bs) need) k) (bigL f (freesB bs) need).length need a e) :
    (∃ i, bestK (fitB need a) bs bs.length = some i ∧ e = .returned (.tuple #[.agg #[.int .u64 ((bs.getD i default).off : Nat), .int .u64 (padN (bs.getD i default).off a : Nat), .int .u64 need], .int .i64 0])) ∨ (bestK (fitB need a) bs bs.length = none ∧ e = .returned (.tuple #[.agg #[.int .u64 0, .int .u64 0, .int .u64 0], .int .i64 3])) := by
  have h0 : ∀ y ∈ freesB bs, 0 < y := fun y hy => by have := hF.freeL.on y hy; omega
  have hr := bigL_rising (f := f) (need := need) hF.freeL.nodup
  have hmem := fun x => bigL_mem (f := f) (need := need) (x := x) h0
  obtain ⟨xs, hxs⟩ : ∃ xs, bigL f (freesB bs) need = xs := ⟨_, rfl⟩
  rw [hxs] at hf hr hmem
  have hkey : ∀ i, i < bs.length → (bs.getD i default).u = false → tS (f (bs.getD i default).off) = (bs.getD i default).s := fun i hi hu => (hF.told.is _ (getB_mem hi)).key
  have hat : ∀ k, k < xs.length → ∃ i, i < bs.length ∧ (bs.getD i default).u = false ∧ (bs.getD i default).off = xs.getD k 0 ∧ need ≤ (bs.getD i default).s ∧ szAt (fun x => tS (f x)) xs k = (bs.getD i default).s := fun k hk => by
    have hm : xs.getD k 0 ∈ xs := by
      rw [List.getD_eq_getElem?_getD, List.getElem?_eq_getElem hk]
      exact List.getElem_mem _
    obtain ⟨h1, h2⟩ := (hmem _).1 hm
    obtain ⟨i, hi, hu, ho⟩ := freesB_at.1 h1
    have hk' := hkey i hi hu
    rw [ho] at hk'
    refine ⟨i, hi, hu, ho, by omega, ?_⟩
    unfold szAt
    rw [if_pos hk]
    exact hk'
  have hto : ∀ j, j < bs.length → fitB need a (bs.getD j default) = true → ∃ k, k < xs.length ∧ xs.getD k 0 = (bs.getD j default).off ∧ padN (xs.getD k 0) a + need ≤ szAt (fun x => tS (f x)) xs k := fun j hj hp => by
    unfold fitB at hp
    simp only [Bool.and_eq_true, Bool.not_eq_true', decide_eq_true_eq] at hp
    obtain ⟨⟨p1, p2⟩, p3⟩ := hp
    have hk' := hkey j hj p1
    have hm : (bs.getD j default).off ∈ xs := (hmem _).2 ⟨freesB_at.2 ⟨j, hj, p1, rfl⟩, by omega⟩
    obtain ⟨k, hk, e⟩ := List.mem_iff_getElem.1 hm
    have e' : xs.getD k 0 = (bs.getD j default).off := by rw [List.getD_eq_getElem?_getD, List.getElem?_eq_getElem hk]; exact e
    refine ⟨k, hk, e', ?_⟩
    unfold szAt
    rw [if_pos hk, e']
    dsimp only
    rw [hk']
    omega
  unfold FitT at hf
  dsimp only at hf
  rcases hf with ⟨k, hk, hok, hno, rfl⟩ | ⟨hno, rfl⟩
  · left
    obtain ⟨i, hi, hu, ho, hn, hs⟩ := hat k hk
    rw [hs] at hok
    refine ⟨i, ?_, by rw [ho]⟩
    refine (bestK_is (fitB need a) bs bs.length).only (y := some i) ⟨hi, ?_, fun j hj hp => ?_⟩
    · unfold fitB
      rw [ho]
      simp only [Bool.and_eq_true, Bool.not_eq_true', decide_eq_true_eq]
      exact ⟨⟨hu, hn⟩, by omega⟩
    · obtain ⟨k', hk', e', p'⟩ := hto j hj hp
      have hnk : ¬ k' < k := fun hlt => hno k' hlt p'
      obtain ⟨i', hi', hu', ho', hn', hs'⟩ := hat k' hk'
      have hij : i' = j := by
        rcases Nat.lt_trichotomy i' j with h | h | h
        · have := hF.told.rise h hj; omega
        · exact h
        · have := hF.told.rise h hi'; omega
      subst hij
      rcases Nat.lt_or_ge k k' with hlt | hge
      · have hb := List.pairwise_iff_getElem.1 hr k k' hk hk' hlt
        have e1 : xs[k] = (bs.getD i default).off := by rw [ho, List.getD_eq_getElem?_getD, List.getElem?_eq_getElem hk]; rfl
        have e2 : xs[k'] = (bs.getD i' default).off := by rw [← e', List.getD_eq_getElem?_getD, List.getElem?_eq_getElem hk']; rfl
        rw [e1, e2] at hb
        unfold blkLt keyLt at hb
        dsimp only at hb
        rw [hkey i hi hu, hkey i' hi' hu'] at hb
        rcases hb with hb | hb
        · exact .inl hb
        · refine .inr ⟨hb.1, ?_⟩
          rcases Nat.lt_or_ge i' i with h | h
          · have := hF.told.rise h hi; omega
          · exact h
      · obtain rfl : k' = k := by omega
        have hii : i' = i := by
          rcases Nat.lt_trichotomy i' i with h | h | h
          · have := hF.told.rise h hi; omega
          · exact h
          · have := hF.told.rise h hj; omega
        subst hii
        exact .inr ⟨rfl, Nat.le_refl _⟩
  · right
    refine ⟨?_, rfl⟩
    refine (bestK_is (fitB need a) bs bs.length).only (y := none) fun j hj => ?_
    cases hp : fitB need a (bs.getD j default) with
    | false => rfl
    | true =>
      obtain ⟨k, hk, _, p⟩ := hto j hj hp
      exact absurd p (hno k hk)
theorem hfit_any (h : Thinks w T M R B D ws l) (hws : 8 * ws.length = 4800) (hF : HeapF (txSee ws l) E bs) {n a : Nat} (ha : alignP a) (hn : n ≤ 18446744073709551560) :
    Calls Tryz.prog 19 #[.pointer (some ⟨T, 0, none⟩), .int .u64 n, .int .u64 a] w fun e w' => ((∃ i, fitM bs n a = some i ∧ e = .returned (.tuple #[.agg #[.int .u64 ((bs.getD i default).off : Nat), .int .u64 (padN (bs.getD i default).off a : Nat), .int .u64 (needOf n : Nat)], .int .i64 0])) ∨ (fitM bs n a = none ∧ e = .returned (.tuple #[.agg #[.int .u64 0, .int .u64 0, .int .u64 0], .int .i64 3]))) ∧ w.grownBy w' none := by
  have h0 : ∀ y ∈ freesB bs, 0 < y := fun y hy => by have := hF.freeL.on y hy; omega
  have hfr := free_tells h hws hF.hung (needOf n)
  refine (callsIn_wide.1 (cfit_in hfr ha (by omega) rfl fun x hx => ?_)).mono ?_
  · obtain ⟨h1, h2⟩ := (bigL_mem h0).1 hx
    have h3 := hF.freeL.on x h1
    obtain ⟨b, hb, hu, rfl⟩ := freesB_mem.1 h1
    have hk := (hF.told.is b hb).key
    have := (may_bounds (hF.told.is b hb).may).2.2.1
    omega
  · rintro e w' ⟨hf, hg⟩
    exact ⟨best_of hF hf, hg⟩
end
end Go.Proofs.YtcbdbflgfhbikaaGreat
namespace Go.Proofs.YtcbdbflgfhbikaaGreat
open Go.RowKit
theorem heapV_cap {E : Nat} {la la' : Option Addr} {N N' c c' : Nat} {vs vs' : Nat → Value} (e : heapV E (.slice la N c) vs = heapV E (.slice la' N' c') vs') : c' = c := by
  unfold heapV at e
  simp only [Value.agg.injEq, Array.mk.injEq, List.cons.injEq, Value.slice.injEq] at e
  exact e.2.1.2.2.symm
theorem rtake10_ok {w : World} {base : Nat} {v : Value} {E : Nat} {bs : List Blk} {L : Nat → List Nat} (h : HvIs w base v E bs L) (hbw : base ≤ w.heap.size) (hlen : bs.length ≤ 1000) (hbd : Bounds bs) {n a i owner : Nat} (ha : alignP a) (hn : n ≤ 18446744073709551560) (how : owner ≤ 8) (hfi : fitM bs n a = some i) (hL : ∀ c, (L c).length ≤ 1000) :
    Calls Tryz.prog 36 #[v, .int .i64 owner, .int .u64 n, .int .u64 a] w fun e w' => ∃ v', e = .returned (.tuple #[v', .int .u64 (gO bs i + padN (gO bs i) a + 32 : Nat), .int .i64 0]) ∧ HvIs w' base v' E (takeB bs i (padN (gO bs i) a) (needOf n) owner n) (takeL L owner (gO bs i + padN (gO bs i) a)) ∧ RowsOf v v' w.heap.size ∧ w.grownBy w' none := by
  obtain ⟨b, vs, hv, hb, _⟩ := h.is
  obtain ⟨la, c, hbe, _⟩ := hb.at_
  rw [hbe] at hv
  have hc : ∀ la' N' c' vs', v = heapV E (.slice la' N' c') vs' → c' = c := fun la' N' c' vs' e => heapV_cap (hv.symm.trans e)
  by_cases h0 : owner = 0
  · by_cases hci : i + 1 < c
    · exact rtake10_more0 h hbw hlen hbd ha hn how hfi hL (fun la' N' c' vs' e => by rw [hc _ _ _ _ e]; exact hci) h0
    · exact rtake10_last0 h hbw hlen hbd ha hn how hfi hL (fun la' N' c' vs' e => by rw [hc _ _ _ _ e]; omega) h0
  · by_cases hci : i + 1 < c
    · exact rtake10_more h hbw hlen hbd ha hn how hfi hL (fun la' N' c' vs' e => by rw [hc _ _ _ _ e]; exact hci) h0
    · exact rtake10_last h hbw hlen hbd ha hn how hfi hL (fun la' N' c' vs' e => by rw [hc _ _ _ _ e]; omega) h0
end Go.Proofs.YtcbdbflgfhbikaaGreat
namespace Go.Proofs.YtcbdbflgfhbikaaGreat
open Go.RowKit
set_option maxRecDepth 100000
section
variable {w0 w w' : World} {T M : Nat} {R : Option Nat} {B D : Nat} {ws : List Nat} {l l' : List (Nat × Nat)} {off E : Nat} {bs A C : List Blk} {b : Blk} {L : Nat → List Nat}
theorem seeH_join (hws : 8 * ws.length = 4800) {c p n : Nat} (hc : c < 8) (hp : p ≠ 0 → p % 8 = 0 ∧ p + 24 < 4800) (hn : n ≠ 0 → n % 8 = 0 ∧ n + 24 < 4800) (x : Nat) :
    txSee ws (joinL ws l c p n) x = if n ≠ 0 ∧ x = n + 24 then p else if p = 0 ∧ x = slotH c then n else if p ≠ 0 ∧ x = p + 16 then n else txSee ws l x := by
  have hs := slotH_lt hc
  have hsl : slotH c % 8 = 0 := by unfold slotH; omega
  unfold joinL
  by_cases hn0 : n = 0
  · have hA : ¬ (n ≠ 0 ∧ x = n + 24) := fun h => h.1 hn0
    rw [if_pos hn0, if_neg hA]
    by_cases hp0 : p = 0
    · have hB : ¬ (p ≠ 0 ∧ x = p + 16) := fun h => h.1 hp0
      rw [if_pos hp0, see_off hws hsl (by omega), if_neg hB]
      by_cases e : x = slotH c
      · rw [if_pos e, if_pos (show p = 0 ∧ x = slotH c from ⟨hp0, e⟩)]
      · rw [if_neg e, if_neg (show ¬ (p = 0 ∧ x = slotH c) from fun h => e h.2)]
    · obtain ⟨h3, h4⟩ := hp hp0
      have hB : ¬ (p = 0 ∧ x = slotH c) := fun h => hp0 h.1
      rw [if_neg hp0, see_off hws (by omega) (by omega), if_neg hB]
      by_cases e : x = p + 16
      · rw [if_pos e, if_pos (show p ≠ 0 ∧ x = p + 16 from ⟨hp0, e⟩)]
      · rw [if_neg e, if_neg (show ¬ (p ≠ 0 ∧ x = p + 16) from fun h => e h.2)]
  · obtain ⟨h1, h2⟩ := hn hn0
    rw [if_neg hn0, see_off hws (by omega) (by omega)]
    by_cases e1 : x = n + 24
    · rw [if_pos e1, if_pos (show n ≠ 0 ∧ x = n + 24 from ⟨hn0, e1⟩)]
    · rw [if_neg e1, if_neg (show ¬ (n ≠ 0 ∧ x = n + 24) from fun h => e1 h.2)]
      by_cases hp0 : p = 0
      · have hB : ¬ (p ≠ 0 ∧ x = p + 16) := fun h => h.1 hp0
        rw [if_pos hp0, see_off hws hsl (by omega), if_neg hB]
        by_cases e : x = slotH c
        · rw [if_pos e, if_pos (show p = 0 ∧ x = slotH c from ⟨hp0, e⟩)]
        · rw [if_neg e, if_neg (show ¬ (p = 0 ∧ x = slotH c) from fun h => e h.2)]
      · obtain ⟨h3, h4⟩ := hp hp0
        have hB : ¬ (p = 0 ∧ x = slotH c) := fun h => hp0 h.1
        rw [if_neg hp0, see_off hws (by omega) (by omega), if_neg hB]
        by_cases e : x = p + 16
        · rw [if_pos e, if_pos (show p ≠ 0 ∧ x = p + 16 from ⟨hp0, e⟩)]
        · rw [if_neg e, if_neg (show ¬ (p ≠ 0 ∧ x = p + 16) from fun h => e h.2)]
theorem getH_head {c : Nat} (hc : c < 8) : cGet ws l c 8 = txSee ws l (slotH c) := by
  have hs : slotP c 8 := ⟨⟨by omega, by omega⟩, by decide, by decide⟩
  unfold cGet
  rw [if_pos hs]
  congr 1
  unfold slotN slotH
  simp only [Int.toNat_natCast]
  omega
theorem hlink {U : List Nat} {c : Nat} (h : Txs w0 w T M R B D ws l) (hws : 8 * ws.length = 4800) (h2 : Ledg U (txSee ws l) L) (hU : Grid U) (hc : c < 8) (ho : off ∈ U) :
    Calls Tryz.prog 116 #[.pointer (some ⟨T, 0, none⟩), .int .i64 c, .int .u64 off] w fun e w' => e = .returned (.tuple #[]) ∧ ∃ R' l', Txs w0 w' T M R' B D ws l' ∧ (∀ x, txSee ws l' x = linkF (txSee ws l) c off x) ∧ Keep w R w' R' := by
  have o1 := hU.lo off ho
  have hh : txSee ws l (slotH c) ≠ 0 → txSee ws l (slotH c) % 8 = 0 ∧ txSee ws l (slotH c) + 24 < 4800 := fun e => by
    have := hU.lo _ (h2.head_on hU hc e).1
    omega
  refine (link_any h hc (by omega) (by rw [getH_head hc]; omega)).mono ?_
  rintro e w' ⟨rfl, R', X, K⟩
  rw [getH_head hc] at X
  refine ⟨rfl, R', _, X, fun x => ?_, K⟩
  have hs := slotH_lt hc
  rw [seeH_join hws hc (fun _ => by omega) hh, seeH_join hws hc (fun e => absurd rfl e) (fun _ => by omega)]
  unfold linkF
  obtain ⟨q, eq⟩ : ∃ q, txSee ws l (slotH c) = q := ⟨_, rfl⟩
  have hq : q ≠ 0 → 3776 ≤ q ∧ (q = off ∨ off + 48 ≤ q ∨ q + 48 ≤ off) := fun e => by
    have hm := (h2.head_on hU hc (by rw [eq]; exact e)).1
    rw [eq] at hm
    refine ⟨(hU.lo q hm).1, ?_⟩
    by_cases e2 : q = off
    · exact .inl e2
    · rcases hU.far q hm off ho e2 with h | h
      · exact .inr (.inr h)
      · exact .inr (.inl h)
  rw [eq]
  obtain ⟨v, ev⟩ : ∃ v, txSee ws l x = v := ⟨_, rfl⟩
  rw [ev]
  clear hh h2 h ev eq X K
  repeat' split
  all_goals first | rfl | omega
end
def padL (P O : Nat) : List Nat := if P = 0 then [] else [O]
def restL (S P N O : Nat) : List Nat := if S - P - N < 48 then [] else [O + P + N]
structure CutB (f0 : Nat → Nat) (E O S P N n owner : Nat) (F : List Nat) : Prop where
  bb : O % 16 = 0 ∧ S % 16 = 0 ∧ 3776 ≤ O ∧ O + S ≤ E ∧ E ≤ 4800
  pp : P % 16 = 0 ∧ (P = 0 ∨ 48 ≤ P)
  nn : N % 16 = 0 ∧ 48 ≤ N
  ln : n + 40 ≤ N
  fit : P + N ≤ S
  own : owner ≤ 8
  out : ∀ y ∈ F, 3776 ≤ y ∧ (y + 48 ≤ O ∨ O + S ≤ y)
  top : f0 16 = E
structure Cut1 (f0 f : Nat → Nat) (O S : Nat) (F ls : List Nat) : Prop where
  stay : Stay f0 f O (O + S) F
  hung : Hung f ls
def PadW (f : Nat → Nat) (O P : Nat) : Prop := P ≠ 0 → f O = packN P false 0 ∧ f (O + P - 8) = packN P false 0
def RestW (f : Nat → Nat) (O S P N : Nat) : Prop := ¬ S - P - N < 48 → f (O + P + N) = packN (S - P - N) false 0 ∧ f (O + S - 8) = packN (S - P - N) false 0
section
variable {w0 w w' : World} {T M : Nat} {R : Option Nat} {B D : Nat} {ws : List Nat} {l l' : List (Nat × Nat)} {f0 f g : Nat → Nat} {E O S P N n owner : Nat} {F ls : List Nat}
theorem Cut1.top (k : Cut1 f0 f O S F ls) (c : CutB f0 E O S P N n owner F) : f 16 = E := by
  have := c.bb
  exact (k.stay.top (by omega) fun y hy => by have := c.out y hy; omega).trans c.top
theorem padL_mem {y : Nat} (h : y ∈ padL P O) : P ≠ 0 ∧ y = O := by
  unfold padL at h
  by_cases e : P = 0
  · rw [if_pos e] at h; cases h
  · rw [if_neg e] at h; exact ⟨e, List.mem_singleton.1 h⟩
theorem restL_mem {y : Nat} (h : y ∈ restL S P N O) : ¬ S - P - N < 48 ∧ y = O + P + N := by
  unfold restL at h
  by_cases e : S - P - N < 48
  · rw [if_pos e] at h; cases h
  · rw [if_neg e] at h; exact ⟨e, List.mem_singleton.1 h⟩
theorem st_del (h : Txs w0 w T M R B D ws l) (hws : 8 * ws.length = 4800) (c : CutB (txSee ws l) E O S P N n owner F) {all : List Nat} (hH : Hung (txSee ws l) all) (hO : O ∈ all) (hS : 48 ≤ S) (hall : (all.filter fun a => decide (a ≠ O)) = F) :
    Calls Tryz.prog 53 #[.pointer (some ⟨T, 0, none⟩), .int .u64 O] w fun e w' => e = .returned (.bool true) ∧ ∃ R' l', Txs w0 w' T M R' B D ws l' ∧ Cut1 (txSee ws l) (txSee ws l') O S F F ∧ Keep w R w' R' := by
  refine (hdelete h hws hH hO).mono ?_
  rintro e w' ⟨rfl, R', l', X, H, K, kp⟩
  rw [hall] at H
  refine ⟨rfl, R', l', X, ⟨(Stay.of_kept K).less fun y hy => ?_, H⟩, kp⟩
  by_cases e : y = O
  · exact .inr (by omega)
  · exact .inl (by rw [← hall]; exact List.mem_filter.2 ⟨hy, by simpa using e⟩)
theorem st_nopad (k : Cut1 f0 f O S F F) (hp : P = 0) : Cut1 f0 f O S F (F ++ padL P O) ∧ PadW f O P := by
  unfold padL
  rw [if_pos hp, List.append_nil]
  exact ⟨k, fun h => absurd hp h⟩
theorem st_pad (h : Txs w0 w T M R B D ws l) (hws : 8 * ws.length = 4800) (c : CutB f0 E O S P N n owner F) (k : Cut1 f0 (txSee ws l) O S F F) (hp : P ≠ 0) :
    Calls Tryz.prog 114 #[.pointer (some ⟨T, 0, none⟩), .int .u64 O, .int .u64 P] w fun e w' => e = .returned (.tuple #[]) ∧ ∃ R' l', Txs w0 w' T M R' B D ws l' ∧ (Cut1 f0 (txSee ws l') O S F (F ++ padL P O) ∧ PadW (txSee ws l') O P) ∧ Keep w R w' R' := by
  have hb := c.bb
  have hP := c.pp
  have hfit := c.fit
  have hN := c.nn
  refine (hspare h hws k.hung (may_false hP.1 (by omega) (by omega)) (by rw [k.top c]; unfold inP; omega) (by rw [k.top c]; omega) fun y hy => by have := c.out y hy; omega).mono ?_
  rintro e w' ⟨rfl, R', l', X, H, St, W, kp⟩
  refine ⟨rfl, R', l', X, ⟨⟨k.stay.trans (St.grow (Nat.le_refl _) (by omega)), ?_⟩, fun _ => W⟩, kp⟩
  unfold padL
  rw [if_neg hp]
  exact H
theorem st_norest (k : Cut1 f0 f O S F (F ++ padL P O) ∧ PadW f O P) (hr : S - P - N < 48) : Cut1 f0 f O S F ((F ++ padL P O) ++ restL S P N O) ∧ PadW f O P ∧ RestW f O S P N := by
  unfold restL
  rw [if_pos hr, List.append_nil]
  exact ⟨k.1, k.2, fun h => absurd hr h⟩
theorem st_rest (h : Txs w0 w T M R B D ws l) (hws : 8 * ws.length = 4800) (c : CutB f0 E O S P N n owner F) (k : Cut1 f0 (txSee ws l) O S F (F ++ padL P O) ∧ PadW (txSee ws l) O P) (hr : ¬ S - P - N < 48) :
    Calls Tryz.prog 114 #[.pointer (some ⟨T, 0, none⟩), .int .u64 (O + P + N : Nat), .int .u64 (S - P - N : Nat)] w fun e w' => e = .returned (.tuple #[]) ∧ ∃ R' l', Txs w0 w' T M R' B D ws l' ∧ (Cut1 f0 (txSee ws l') O S F ((F ++ padL P O) ++ restL S P N O) ∧ PadW (txSee ws l') O P ∧ RestW (txSee ws l') O S P N) ∧ Keep w R w' R' := by
  have hb := c.bb
  have hP := c.pp
  have hfit := c.fit
  have hN := c.nn
  have hfar : ∀ y ∈ F ++ padL P O, y + 48 ≤ O + P + N ∨ O + S ≤ y := fun y hy => by
    rcases List.mem_append.1 hy with hy | hy
    · have := c.out y hy; omega
    · have := padL_mem hy; omega
  refine (hspare h hws k.1.hung (may_false (by omega) (by omega) (by omega)) (by rw [k.1.top c]; unfold inP; omega) (by rw [k.1.top c]; omega) fun y hy => by have := hfar y hy; omega).mono ?_
  rintro e w' ⟨rfl, R', l', X, H, St, W, kp⟩
  have hst2 : Stay (txSee ws l) (txSee ws l') O (O + S) F := (St.grow (show O ≤ O + P + N by omega) (show O + P + N + (S - P - N) ≤ O + S by omega)).less fun y hy => by
    rcases List.mem_append.1 hy with hy | hy
    · exact .inl hy
    · have := padL_mem hy; exact .inr (by omega)
  refine ⟨rfl, R', l', X, ⟨⟨k.1.stay.trans hst2, ?_⟩, fun hp => ?_, fun _ => ⟨W.1, ?_⟩⟩, kp⟩
  · unfold restL
    rw [if_neg hr]
    exact H
  · obtain ⟨p1, p2⟩ := k.2 hp
    have hx : ∀ x, x = O ∨ x = O + P - 8 → txSee ws l' x = txSee ws l x := fun x h1 => St x (.inl (by omega)) (by omega) fun y hy => by
      rcases List.mem_append.1 hy with hy | hy
      · have := c.out y hy; omega
      · have := padL_mem hy; omega
    rw [hx O (.inl rfl), hx (O + P - 8) (.inr rfl)]
    exact ⟨p1, p2⟩
  · have := W.2
    rw [show O + P + N + (S - P - N) - 8 = O + S - 8 by omega] at this
    exact this
theorem cut_in (c : CutB f0 E O S P N n owner F) (k : Cut1 f0 f O S F ((F ++ padL P O) ++ restL S P N O) ∧ PadW f O P ∧ RestW f O S P N) (hg : ∀ x, (x < O + P ∨ O + P + cutS S P N ≤ x) → g x = f x) : Cut1 f0 g O S F ((F ++ padL P O) ++ restL S P N O) ∧ PadW g O P ∧ RestW g O S P N := by
  have hb := c.bb
  have hP := c.pp
  have hfit := c.fit
  have hN := c.nn
  have hz : O + P + cutS S P N ≤ O + S ∧ (¬ S - P - N < 48 → cutS S P N = N) := by
    unfold cutS
    by_cases h : S - P - N < 48
    · rw [if_pos h]; exact ⟨by omega, fun h' => absurd h h'⟩
    · rw [if_neg h]; exact ⟨by omega, fun _ => rfl⟩
  refine ⟨⟨k.1.stay.trans fun x a _ _ => hg x (by omega), k.1.hung.congr (hg 32 (by omega)) fun y hy => ?_⟩, fun hp => ?_, fun hr => ?_⟩
  · have : y + 16 < O + P ∨ O + P + cutS S P N ≤ y := by
      rcases List.mem_append.1 hy with hy | hy
      · rcases List.mem_append.1 hy with hy | hy
        · have := c.out y hy; omega
        · have := padL_mem hy; omega
      · obtain ⟨h1, h2⟩ := restL_mem hy
        have := hz.2 h1
        omega
    exact ⟨hg _ (by omega), hg _ (by omega), hg _ (by omega)⟩
  · rw [hg _ (by omega), hg _ (by omega)]
    exact k.2.1 hp
  · have := hz.2 hr
    rw [hg _ (by omega), hg _ (by omega)]
    exact k.2.2 hr
def UsedW (f : Nat → Nat) (O P sz owner : Nat) : Prop := f (O + P) = packN sz true owner ∧ f (O + P + sz - 8) = packN sz true owner
theorem cutS_is (c : CutB f0 E O S P N n owner F) : cutS S P N % 16 = 0 ∧ N ≤ cutS S P N ∧ O + P + cutS S P N ≤ O + S := by
  have hb := c.bb
  have hP := c.pp
  have hfit := c.fit
  have hN := c.nn
  unfold cutS
  by_cases h : S - P - N < 48
  · rw [if_pos h]; omega
  · rw [if_neg h]; omega
theorem st_write (h : Txs w0 w T M R B D ws l) (hws : 8 * ws.length = 4800) (c : CutB f0 E O S P N n owner F) (k : Cut1 f0 (txSee ws l) O S F ((F ++ padL P O) ++ restL S P N O) ∧ PadW (txSee ws l) O P ∧ RestW (txSee ws l) O S P N) :
    Calls Tryz.prog 55 #[.pointer (some ⟨T, 0, none⟩), .int .u64 (O + P : Nat), .agg #[.int .u64 (cutS S P N : Nat), .bool true, .int .i64 owner]] w fun e w' => e = .returned (.int .i64 0) ∧ ∃ R' l', Txs w0 w' T M R' B D ws l' ∧ ((Cut1 f0 (txSee ws l') O S F ((F ++ padL P O) ++ restL S P N O) ∧ PadW (txSee ws l') O P ∧ RestW (txSee ws l') O S P N) ∧ UsedW (txSee ws l') O P (cutS S P N) owner) ∧ Keep w R w' R' := by
  have hb := c.bb
  have hP := c.pp
  have hfit := c.fit
  have hN := c.nn
  have hz := cutS_is c
  have ho := c.own
  refine (hwrite h hws (may_true hz.1 (by omega) (by omega) c.own) (by rw [k.1.top c]; unfold inP; omega) (by rw [k.1.top c]; omega)).mono ?_
  rintro e w' ⟨rfl, R', l', X, e1, kp⟩
  refine ⟨rfl, R', l', X, ⟨cut_in c k fun x hx => by rw [e1, if_neg (by omega)], ?_, ?_⟩, kp⟩
  · rw [e1, if_pos (.inl rfl)]
  · rw [e1, if_pos (.inr rfl)]
theorem st_fill (h : Txs w0 w T M R B D ws l) (hws : 8 * ws.length = 4800) (c : CutB f0 E O S P N n owner F) (k : (Cut1 f0 (txSee ws l) O S F ((F ++ padL P O) ++ restL S P N O) ∧ PadW (txSee ws l) O P ∧ RestW (txSee ws l) O S P N) ∧ UsedW (txSee ws l) O P (cutS S P N) owner) :
    Calls Tryz.prog 115 #[.pointer (some ⟨T, 0, none⟩), .int .u64 (O + P : Nat), .int .u64 n] w fun e w' => e = .returned (.tuple #[]) ∧ ∃ R' l', Txs w0 w' T M R' B D ws l' ∧ (Stay f0 (txSee ws l') O (O + S) F ∧ CutW O S P N (cutS S P N) n owner (txSee ws l') ∧ Hung (txSee ws l') ((F ++ padL P O) ++ restL S P N O) ∧ ∀ j, j < (n + 7) / 8 → txSee ws l' (O + P + 32 + 8 * j) = 0) ∧ Keep w R w' R' := by
  have hb := c.bb
  have hP := c.pp
  have hfit := c.fit
  have hN := c.nn
  have hn := c.ln
  have hz := cutS_is c
  refine (hfill h hws (by omega) (by omega)).mono ?_
  rintro e w' ⟨rfl, R', l', X, Fl, kp⟩
  have k2 := cut_in c k.1 (g := txSee ws l') fun x hx => by rw [Fl x, if_neg (by omega), if_neg (by omega)]
  refine ⟨rfl, R', l', X, ⟨k2.1.stay, ⟨k2.2.1, k2.2.2, ⟨?_, ?_⟩, ?_⟩, k2.1.hung, fun j hj => ?_⟩, kp⟩
  · rw [Fl, if_neg (by omega), if_neg (by omega)]; exact k.2.1
  · rw [Fl, if_neg (by omega), if_neg (by omega)]; exact k.2.2
  · rw [Fl, if_pos rfl]
  · rw [Fl, if_neg (by omega), if_pos (by omega)]
end
end Go.Proofs.YtcbdbflgfhbikaaGreat
