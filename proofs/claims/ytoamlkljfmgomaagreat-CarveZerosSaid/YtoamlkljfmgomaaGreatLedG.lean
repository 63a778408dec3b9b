/-
  Package ledger: the contracts of Link, Unlink, List and Check, over a Tx whose words tell all clients' lists.
  Conditions: the Tx stands in memory; the words tell all clients' lists.
-/
import Derived.Test.YtoamlkljfmgomaaGreatLedI
import Derived.Test.YtoamlkljfmgomaaGreatLedGC
import Derived.Test.YtoamlkljfmgomaaGreatLedB
namespace Go.Proofs.YtoamlkljfmgomaaGreat
open Go.RowKit
set_option linter.unusedVariables false
set_option linter.unusedSimpArgs false

/-- A Tx that is new since w0, over a segment whose words tell all clients' lists, of the blocks U; tg: these blocks' first words. -/
def LW (w0 w : World) (T : Nat) (R : Option Nat) (U : List Nat) (tg : Nat → Nat) (L : Nat → List Nat) : Prop :=
  ∃ M B D l, Txs w0 w T M R B D (fmt48 4800) l ∧ Ledg U (txSee (fmt48 4800) l) L ∧ ∀ x ∈ U, txSee (fmt48 4800) l x = tg x
/-- what is seen behind join -/
theorem see_join {n0 : Nat} {l : List (Nat × Nat)} {c p n : Nat} (hc : c < 8) (hp : p ≠ 0 → p % 8 = 0 ∧ p + 24 < 4800) (hn : n ≠ 0 → n % 8 = 0 ∧ n + 24 < 4800) (x : Nat) :
    txSee (fmt48 n0) (joinL (fmt48 n0) l c p n) x = if n ≠ 0 ∧ x = n + 24 then p else if p = 0 ∧ x = slotH c then n else if p ≠ 0 ∧ x = p + 16 then n else txSee (fmt48 n0) l x := by
  have hs := slotH_lt hc
  have hsl : stands (fmt48 n0) (slotH c) := stands48 (by unfold slotH; omega) (by omega)
  unfold joinL
  by_cases hn0 : n = 0
  · have hA : ¬ (n ≠ 0 ∧ x = n + 24) := fun h => h.1 hn0
    rw [if_pos hn0, if_neg hA]
    by_cases hp0 : p = 0
    · have hB : ¬ (p ≠ 0 ∧ x = p + 16) := fun h => h.1 hp0
      rw [if_pos hp0, see_stored hsl, if_neg hB]
      by_cases e : x = slotH c
      · rw [if_pos e, if_pos (show p = 0 ∧ x = slotH c from ⟨hp0, e⟩)]
      · rw [if_neg e, if_neg (show ¬ (p = 0 ∧ x = slotH c) from fun h => e h.2)]
    · obtain ⟨h3, h4⟩ := hp hp0
      have hB : ¬ (p = 0 ∧ x = slotH c) := fun h => hp0 h.1
      rw [if_neg hp0, see_stored (stands48 (by omega) (by omega)), if_neg hB]
      by_cases e : x = p + 16
      · rw [if_pos e, if_pos (show p ≠ 0 ∧ x = p + 16 from ⟨hp0, e⟩)]
      · rw [if_neg e, if_neg (show ¬ (p ≠ 0 ∧ x = p + 16) from fun h => e h.2)]
  · obtain ⟨h1, h2⟩ := hn hn0
    rw [if_neg hn0, see_stored (stands48 (by omega) (by omega))]
    by_cases e1 : x = n + 24
    · rw [if_pos e1, if_pos (show n ≠ 0 ∧ x = n + 24 from ⟨hn0, e1⟩)]
    · rw [if_neg e1, if_neg (show ¬ (n ≠ 0 ∧ x = n + 24) from fun h => e1 h.2)]
      by_cases hp0 : p = 0
      · have hB : ¬ (p ≠ 0 ∧ x = p + 16) := fun h => h.1 hp0
        rw [if_pos hp0, see_stored hsl, if_neg hB]
        by_cases e : x = slotH c
        · rw [if_pos e, if_pos (show p = 0 ∧ x = slotH c from ⟨hp0, e⟩)]
        · rw [if_neg e, if_neg (show ¬ (p = 0 ∧ x = slotH c) from fun h => e h.2)]
      · obtain ⟨h3, h4⟩ := hp hp0
        have hB : ¬ (p = 0 ∧ x = slotH c) := fun h => hp0 h.1
        rw [if_neg hp0, see_stored (stands48 (by omega) (by omega)), if_neg hB]
        by_cases e : x = p + 16
        · rw [if_pos e, if_pos (show p ≠ 0 ∧ x = p + 16 from ⟨hp0, e⟩)]
        · rw [if_neg e, if_neg (show ¬ (p ≠ 0 ∧ x = p + 16) from fun h => e h.2)]
section
variable {w0 w w' : World} {T : Nat} {R : Option Nat} {U : List Nat} {tg : Nat → Nat} {L : Nat → List Nat} {c off : Nat} {la : Option Addr} {m k : Nat}
theorem LW.later (h : LW w0 w T R U tg L) (hg : w.grownBy w' none) : LW w0 w' T R U tg L := by
  obtain ⟨M, B, D, l, h1, h2, h3⟩ := h
  exact ⟨M, B, D, l, h1.later hg, h2, h3⟩
theorem LW.since (h : LW w0 w T R U tg L) : w0.grownBy w none := by
  obtain ⟨M, B, D, l, h1, h2, h3⟩ := h
  exact h1.since
theorem get_head {n0 : Nat} {l : List (Nat × Nat)} (hc : c < 8) : cGet (fmt48 n0) l c 8 = txSee (fmt48 n0) l (slotH c) := by
  have hs : slotP c 8 := ⟨⟨by omega, by omega⟩, by decide, by decide⟩
  unfold cGet
  rw [if_pos hs]
  congr 1
  unfold slotN slotH
  simp only [Int.toNat_natCast]
  omega
theorem lw_link (h : LW w0 w T R U tg L) (hU : Grid U) (hc : c < 8) (ho : off ∈ U) (hn : ∀ d, d < 8 → off ∉ L d) :
    Calls Tryz.prog 41 #[.pointer (some ⟨T, 0, none⟩), .int .i64 c, .int .u64 off] w fun e w' => e = .returned (.tuple #[]) ∧ ∃ R', LW w0 w' T R' U tg (setL L c (off :: L c)) ∧ Keep w R w' R' := by
  obtain ⟨M, B, D, l, h1, h2, h3⟩ := h
  have o1 := hU.lo off ho
  have hh : txSee (fmt48 4800) l (slotH c) ≠ 0 → txSee (fmt48 4800) l (slotH c) % 8 = 0 ∧ txSee (fmt48 4800) l (slotH c) + 24 < 4800 := fun e => by
    have := hU.lo _ (h2.head_on hU hc e).1
    omega
  refine (link_any h1 hc (by omega) (by rw [get_head hc]; omega)).mono ?_
  rintro e w' ⟨rfl, R', X, K⟩
  rw [get_head hc] at X
  have hsee : ∀ x, txSee (fmt48 4800) (joinL (fmt48 4800) (joinL (fmt48 4800) l c 0 off) c off (txSee (fmt48 4800) l (slotH c))) x = linkF (txSee (fmt48 4800) l) c off x := fun x => by
    have hs := slotH_lt hc
    rw [see_join hc (fun _ => by omega) hh, see_join hc (fun e => absurd rfl e) (fun _ => by omega)]
    unfold linkF
    obtain ⟨q, eq⟩ : ∃ q, txSee (fmt48 4800) l (slotH c) = q := ⟨_, rfl⟩
    have hq : q ≠ 0 → 3776 ≤ q ∧ (q = off ∨ off + 48 ≤ q ∨ q + 48 ≤ off) := fun e => by
      have hm := (h2.head_on hU hc (by rw [eq]; exact e)).1
      rw [eq] at hm
      refine ⟨(hU.lo q hm).1, ?_⟩
      by_cases e2 : q = off
      · exact .inl e2
      · rcases hU.far q hm off ho e2 with h | h
        · exact .inr (.inr h)
        · exact .inr (.inl h)
    rw [eq]
    obtain ⟨v, ev⟩ : ∃ v, txSee (fmt48 4800) l x = v := ⟨_, rfl⟩
    rw [ev]
    clear hh h2 h3 h1 ev eq X K
    repeat' split
    all_goals first | rfl | omega
  exact ⟨rfl, R', ⟨M, B, D, _, X, h2.link hU hc ho hn hsee, fun x hx => by rw [hsee, ← h3 x hx]; exact link_keeps h2 hU hc ho hx (q := 0) (by decide) (by decide) (by decide)⟩, K⟩
/-- who stands beside a block of a list -/
theorem Ledg.near {f : Nat → Nat} (h : Ledg U f L) (hc : c < 8) (ho : off ∈ L c) : (f (off + 24) ≠ 0 → f (off + 24) ∈ U) ∧ (f (off + 16) ≠ 0 → f (off + 16) ∈ U) := by
  obtain ⟨us, bs, hl⟩ := List.append_of_mem ho
  have hst := h.strung c hc
  rw [hl, strung_append, strung_cons] at hst
  obtain ⟨s1, s2, s3, s4⟩ := hst
  refine ⟨fun h0 => ?_, fun h0 => ?_⟩
  · rw [s2] at h0 ⊢
    refine h.on c hc _ ?_
    rw [hl]
    rcases List.eq_nil_or_concat us with e | ⟨r, z, e⟩
    · subst e; exact absurd rfl h0
    · rw [List.concat_eq_append] at e
      subst e
      simp
  · rw [s3] at h0 ⊢
    refine h.on c hc _ ?_
    rw [hl]
    cases bs with
    | nil => exact absurd rfl h0
    | cons b r => simp
theorem lw_head (h : LW w0 w T R U tg L) (hc : c < 8) :
    Calls Tryz.prog 65 #[.pointer (some ⟨T, 0, none⟩), .int .i64 c] w fun e w' => e = .returned (.int .u64 ((L c).headD 0 : Nat)) ∧ w.grownBy w' none := by
  obtain ⟨M, B, D, l, h1, h2, h3⟩ := h
  have := chead_any h1.tx c
  rw [get_head hc, h2.head c hc] at this
  exact this
theorem lw_load (h : LW w0 w T R U tg L) (hU : Grid U) {x : Nat} (hx : x ∈ U) :
    Calls Tryz.prog 20 #[.pointer (some ⟨T, 0, none⟩), .int .u64 x] w fun e w' => e = .returned (.int .u64 (tg x : Nat)) ∧ w.grownBy w' none := by
  obtain ⟨M, B, D, l, h1, h2, h3⟩ := h
  have := txload_any h1.tx x (by have := hU.lo x hx; omega)
  rw [h3 x hx] at this
  exact this
/-- a list's words, place by place -/
theorem strung_next {f : Nat → Nat} : ∀ {xs : List Nat} {p : Nat}, Strung f p xs 0 → ∀ k, k < xs.length → f (xs.getD k 0 + 16) = xs.getD (k + 1) 0
  | [], p, _, k, hk => absurd hk (Nat.not_lt_zero _)
  | x :: r, p, h, k, hk => by
    obtain ⟨h1, h2, h3⟩ := h
    cases k with
    | zero =>
      rw [show (x :: r).getD 0 0 = x from rfl, h2]
      cases r <;> rfl
    | succ j => simpa using strung_next h3 j (by simpa using hk)
theorem lw_tells (h : LW w0 w T R U tg L) (hU : Grid U) (hc : c < 8) : Tells w (.pointer (some ⟨T, 0, none⟩)) c (L c) := by
  have hon : ∀ x ∈ L c, x ∈ U := by obtain ⟨M, B, D, l, h1, h2, h3⟩ := h; exact h2.on c hc
  have hnd : (L c).Nodup := by obtain ⟨M, B, D, l, h1, h2, h3⟩ := h; exact h2.once c hc
  refine ⟨fun V hg => ?_, fun V hg => ?_, fun V k hg hk => ?_, fun x hx => ?_, ?_⟩
  · have := lw_head (h.later hg) hc
    rw [headD_get] at this
    exact this
  · obtain ⟨M, B, D, l, h1, h2, h3⟩ := h
    have := txsize_any (h1.later hg).tx
    rw [fmt48_len] at this
    exact this
  · obtain ⟨M, B, D, l, h1, h2, h3⟩ := h
    have hx : (L c).getD k 0 ∈ L c := by
      rw [List.getD_eq_getElem?_getD, List.getElem?_eq_getElem hk]
      exact List.getElem_mem _
    have := txload_any (h1.later hg).tx ((L c).getD k 0 + 16) (by have := hU.lo _ (hon _ hx); omega)
    rw [strung_next (h2.strung c hc) k hk] at this
    exact this
  · have := hU.lo x (hon x hx)
    omega
  · exact Nat.le_trans (few_places 599 (L c) hnd (fun x hx => by have := hU.lo x (hon x hx); omega)) (Nat.le_refl _)
theorem lw_few (h : LW w0 w T R U tg L) (hU : Grid U) (hc : c < 8) : (L c).length ≤ 599 := (lw_tells h hU hc).few
theorem lw_check (h : LW w0 w T R U tg L) (hU : Grid U) (hc : c < 8) (hw : WordsAt w la (L c)) (hm : (L c).length = m) :
    Calls Tryz.prog 33 #[.pointer (some ⟨T, 0, none⟩), .int .i64 c, .slice la m k] w fun e w' => e = .returned (.bool true) ∧ w.grownBy w' none := by
  have hf := lw_few h hU hc
  obtain ⟨M, B, D, l, h1, h2, h3⟩ := h
  have h64 : ∀ i, (L c).getD i 0 < 18446744073709551616 := fun i => by
    rcases Nat.lt_or_ge i (L c).length with hi | hi
    · have hx : (L c).getD i 0 ∈ L c := by
        rw [List.getD_eq_getElem?_getD, List.getElem?_eq_getElem hi]
        exact List.getElem_mem _
      have := hU.lo _ (h2.on c hc _ hx)
      omega
    · rw [List.getD_eq_getElem?_getD, List.getElem?_eq_none hi]
      decide
  have := lcheck_any (c := k) h1.tx (by rw [fmt48_len]; decide) hw hm (by omega) h64 c
  rw [get_head hc, decide_eq_true (h2.check hU hc)] at this
  exact this
theorem lw_check_nil (h : LW w0 w T R U tg L) (hU : Grid U) (hc : c < 8) (hn : L c ≠ []) :
    Calls Tryz.prog 33 #[.pointer (some ⟨T, 0, none⟩), .int .i64 c, .slice none 0 0] w fun e w' => e = .returned (.bool false) ∧ w.grownBy w' none := by
  obtain ⟨M, B, D, l, h1, h2, h3⟩ := h
  have := lcheck_any (c := 0) (la := none) (xs := []) (n := 0) h1.tx (by rw [fmt48_len]; decide) ⟨fun h => absurd h (by simp)⟩ rfl (by decide) (fun i => by simp) c
  rw [decide_eq_false (fun hck => ?_)] at this
  · exact this
  · have e := hck.1
    rw [get_head hc, h2.head c hc] at e
    cases hl : L c with
    | nil => exact hn hl
    | cons x r =>
      rw [hl] at e
      have e2 : x = 0 := e
      have := hU.lo x (h2.on c hc x (by rw [hl]; simp))
      omega
end
end Go.Proofs.YtoamlkljfmgomaaGreat
