/-
  The tree of a Tx that is new, and what else the caller has: what each call of the package leaves of both.
  Conditions: as said at each.
-/
import Derived.Test.YthhboidjibdahaaGreatTreeG
import Derived.Test.YthhboidjibdahaaGreatTreeBa
import Derived.Test.YthhboidjibdahaaGreatTreeOb
import Derived.Test.YthhboidjibdahaaGreatTreeLa
import Derived.Test.YthhboidjibdahaaGreatLHead
import Derived.Test.YthhboidjibdahaaGreatLTag
namespace Go.Proofs.YthhboidjibdahaaGreat
open Go.RowKit
set_option linter.unusedVariables false
set_option linter.unusedSimpArgs false

/-- A Tx that is new since w0, over a segment in which the blocks F are free. -/
def TB (w0 w : World) (T : Nat) (R : Option Nat) (ws : List Nat) (z : Nat → Nat) (F : List Nat) : Prop :=
  ∃ M B D l, Txs w0 w T M R B D ws l ∧ Bed ws l z F
/-- .. and the tree of the blocks L is in it. -/
def TW (w0 w : World) (T : Nat) (R : Option Nat) (ws : List Nat) (z : Nat → Nat) (F L : List Nat) : Prop :=
  ∃ M B D l, Txs w0 w T M R B D ws l ∧ Bed ws l z F ∧ TreeIs (txSee ws l) z F L
/-- A row of the caller's, that isn't the Tx's. -/
def KW (w : World) (R : Option Nat) (base : Nat) (v : Value) (xs : List Nat) : Prop := OwnW w base v xs ∧ ∀ g, v.ownBlock = some g → R ≠ some g
/-- What the caller has is still there. -/
structure Keep (w : World) (R : Option Nat) (w' : World) (R' : Option Nat) : Prop where
  size : w.heap.size ≤ w'.heap.size
  row : ∀ {base : Nat} {v : Value} {xs : List Nat}, KW w R base v xs → KW w' R' base v xs
  puts : ∀ {base : Nat} {v : Value} {xs : List (Nat × Nat)}, OwnP w base v xs → OwnP w' base v xs
  far : ∀ {b : Nat} {c : Array Value} {t : TypeId}, w.heap[b]? = some (.cells c t (0, 0)) → t ≠ 96 → t ≠ 33 → w'.heap[b]? = some (.cells c t (0, 0))
section
variable {w0 w w' w2 : World} {T : Nat} {R R' R2 : Option Nat} {ws : List Nat} {z : Nat → Nat} {F L K : List Nat} {off base : Nat} {v : Value} {xs : List Nat} {la : Option Addr} {c : Nat}
theorem KW.later (h : KW w R base v xs) (hg : w.grownBy w' none) : KW w' R base v xs := ⟨h.1.later hg, h.2⟩
theorem KW.mono {b : Nat} (h : KW w R base v xs) (hb : b ≤ base) : KW w R b v xs := ⟨h.1.mono hb, h.2⟩
theorem TB.later (h : TB w0 w T R ws z F) (hg : w.grownBy w' none) : TB w0 w' T R ws z F := by
  obtain ⟨M, B, D, l, h1, h2⟩ := h
  exact ⟨M, B, D, l, h1.later hg, h2⟩
theorem TW.later (h : TW w0 w T R ws z F L) (hg : w.grownBy w' none) : TW w0 w' T R ws z F L := by
  obtain ⟨M, B, D, l, h1, h2, h3⟩ := h
  exact ⟨M, B, D, l, h1.later hg, h2, h3⟩
theorem TW.since (h : TW w0 w T R ws z F L) : w0.grownBy w none := by
  obtain ⟨M, B, D, l, h1, h2, h3⟩ := h
  exact h1.since
theorem TB.since (h : TB w0 w T R ws z F) : w0.grownBy w none := by
  obtain ⟨M, B, D, l, h1, h2⟩ := h
  exact h1.since
theorem TW.perm (h : TW w0 w T R ws z F L) (hp : L.Perm K) : TW w0 w T R ws z F K := by
  obtain ⟨M, B, D, l, h1, h2, h3⟩ := h
  exact ⟨M, B, D, l, h1, h2, h3.perm hp⟩
theorem TW.nodup (h : TW w0 w T R ws z F L) : L.Nodup := by
  obtain ⟨M, B, D, l, h1, h2, h3⟩ := h
  exact h3.nodup
theorem TW.sub (h : TW w0 w T R ws z F L) : ∀ x, x ∈ L → x ∈ F := by
  obtain ⟨M, B, D, l, h1, h2, h3⟩ := h
  exact h3.sub
theorem TW.free (h : TW w0 w T R ws z F L) : FreeL F := by
  obtain ⟨M, B, D, l, h1, h2, h3⟩ := h
  exact h3.free
theorem TB.free (h : TB w0 w T R ws z F) : FreeL F := by
  obtain ⟨M, B, D, l, h1, h2⟩ := h
  exact h2.free
theorem Keep.of_grown (hg : w.grownBy w' none) : Keep w R w' R := ⟨hg.size, fun h => h.later hg, fun h => own_kept h hg, fun h _ _ => (hg.block _ (lt_of_block h) (by simp)).trans h⟩
theorem Keep.trans (h : Keep w R w' R') (k : Keep w' R' w2 R2) : Keep w R w2 R2 := ⟨Nat.le_trans h.size k.size, fun a => k.row (h.row a), fun a => k.puts (h.puts a), fun a b c => k.far (h.far a b c) b c⟩
theorem step_keep {M B D : Nat} {l l' : List (Nat × Nat)} (h : Txs w0 w T M R B D ws l) (ht : Thought w T M R B D ws l' w') : ∃ R', Txs w0 w' T M R' B D ws l' ∧ Keep w R w' R' := by
  obtain ⟨R', h1, h2, h3⟩ := h.step ht
  refine ⟨R', h1, ⟨h2.size, fun {base v xs} a => ⟨a.1.past h.tx h2 a.2, fun g hg e => ?_⟩, fun a => a.past h.tx h2, fun a b c => h2.heap a (h.tx.far a b c)⟩⟩
  have hlt := (World.ownsRow.lt a.1 g hg).2
  rcases h3 with rfl | ⟨g', e', hg'⟩
  · exact a.2 g hg e
  · rw [e'] at e
    injection e with e
    omega
theorem tw_build (h : TB w0 w T R ws z F) (hm : WordsAt w la F) (hlen : F.length ≤ 1000000) :
    Calls Tryz.prog 14 #[.pointer (some ⟨T, 0, none⟩), .slice la F.length c] w fun e w' => e = .returned (.tuple #[]) ∧ ∃ R', TW w0 w' T R' ws z F F ∧ Keep w R w' R' := by
  obtain ⟨M, B, D, l, h1, h2⟩ := h
  refine (tbuild_any (c := c) h1.tx h2 (fun x hx => hx) h2.free.nodup hm hlen).mono ?_
  rintro e w' ⟨rfl, l', ht, hB, hI⟩
  obtain ⟨R', h3, h4⟩ := step_keep h1 ht
  exact ⟨rfl, R', ⟨M, B, D, l', h3, hB, hI⟩, h4⟩
theorem tw_plant (h : TB w0 w T R ws z F) :
    Calls Tryz.prog 7 #[.pointer (some ⟨T, 0, none⟩), .int .u64 0] w fun e w' => e = .returned (.tuple #[]) ∧ ∃ R', TW w0 w' T R' ws z F [] ∧ Keep w R w' R' := by
  obtain ⟨M, B, D, l, h1, h2⟩ := h
  refine (hplant_any h1.tx 0 (by decide)).mono ?_
  rintro e w' ⟨rfl, ht⟩
  obtain ⟨R', h3, h4⟩ := step_keep h1 ht
  have hst := h2.stand (lk := 32) (.inl rfl)
  have hled : Led ws l 32 0 (txStore ws l 32 0) := fun q => see_stored hst.1 q
  exact ⟨rfl, R', ⟨M, B, D, _, h3, h2.led (.inl rfl) hled, TreeIs.nil h2.free hled.at_⟩, h4⟩
theorem tw_insert (h : TW w0 w T R ws z F L) (ho : off ∈ F) (hn : off ∉ L) :
    Calls Tryz.prog 9 #[.pointer (some ⟨T, 0, none⟩), .int .u64 off] w fun e w' => e = .returned (.tuple #[]) ∧ ∃ R', TW w0 w' T R' ws z F (L ++ [off]) ∧ Keep w R w' R' := by
  obtain ⟨M, B, D, l, h1, h2, h3⟩ := h
  refine (tinsert_any h1.tx h2 h3 ho hn).mono ?_
  rintro e w' ⟨rfl, l', ht, hB, hI⟩
  obtain ⟨R', h4, h5⟩ := step_keep h1 ht
  exact ⟨rfl, R', ⟨M, B, D, l', h4, hB, hI⟩, h5⟩
theorem tw_delete (h : TW w0 w T R ws z F L) (ho : off ∈ F) (hn : off ∈ L) (hp : (L.filter fun a => decide (a ≠ off)).Perm K) :
    Calls Tryz.prog 18 #[.pointer (some ⟨T, 0, none⟩), .int .u64 off] w fun e w' => e = .returned (.bool true) ∧ ∃ R', TW w0 w' T R' ws z F K ∧ Keep w R w' R' := by
  obtain ⟨M, B, D, l, h1, h2, h3⟩ := h
  refine (tdelete_yes h1.tx h2 h3 ho hn).mono ?_
  rintro e w' ⟨rfl, l', ht, hB, hI⟩
  obtain ⟨R', h4, h5⟩ := step_keep h1 ht
  exact ⟨rfl, R', ⟨M, B, D, l', h4, hB, hI.perm hp⟩, h5⟩
theorem tw_stays (h : TW w0 w T R ws z F L) (ho : off ∈ F) (hn : off ∉ L) :
    Calls Tryz.prog 18 #[.pointer (some ⟨T, 0, none⟩), .int .u64 off] w fun e w' => e = .returned (.bool false) ∧ w.grownBy w' none := by
  obtain ⟨M, B, D, l, h1, h2, h3⟩ := h
  exact tdelete_no h1.tx h2 h3 ho hn
theorem tw_check (h : TW w0 w T R ws z F L) (hp : L.Perm K) (hm : WordsAt w la K) {n : Nat} (hn : K.length = n) (hlen : n ≤ 1000000) :
    Calls Tryz.prog 10 #[.pointer (some ⟨T, 0, none⟩), .slice la n c] w fun e w' => e = .returned (.bool true) ∧ w.grownBy w' none := by
  subst hn
  obtain ⟨M, B, D, l, h1, h2, h3⟩ := h
  have h4 := h3.perm hp
  refine (tcheck_any (c := c) h1.tx h2 h4.sub h4.nodup hm hlen).mono ?_
  rintro e w' ⟨hg, b, rfl, hb⟩
  rw [hb.2 h4.tree]
  exact ⟨rfl, hg⟩
theorem tw_check_nil (h : TW w0 w T R ws z F L) (hn : L ≠ []) :
    Calls Tryz.prog 10 #[.pointer (some ⟨T, 0, none⟩), .slice none 0 0] w fun e w' => e = .returned (.bool false) ∧ w.grownBy w' none := by
  obtain ⟨M, B, D, l, h1, h2, h3⟩ := h
  refine (tcheck_any (L := []) (c := 0) (la := none) h1.tx h2 (by simp) (by simp) ⟨fun h => by simp at h⟩ (by simp)).mono ?_
  rintro e w' ⟨hg, b, rfl, hb⟩
  refine ⟨?_, hg⟩
  cases b with
  | false => rfl
  | true =>
    have h4 := (hb.1 rfl).none
    have h5 := h3.tree
    rw [h4] at h5
    have h6 := congrArg List.length h5.zero
    rw [srtK_length] at h6
    exact absurd (List.eq_nil_of_length_eq_zero h6) hn
theorem tw_root (h : TW w0 w T R ws z F L) :
    Calls Tryz.prog 17 #[.pointer (some ⟨T, 0, none⟩)] w fun e w' => (∃ r : Nat, e = .returned (.int .u64 r) ∧ (L = [] → r = 0) ∧ ∀ x, L = [x] → r = x) ∧ w.grownBy w' none := by
  obtain ⟨M, B, D, l, h1, h2, h3⟩ := h
  refine (hroot_any h1.tx).mono ?_
  rintro e w' ⟨rfl, hg⟩
  have ht := h3.tree
  refine ⟨⟨_, rfl, ?_, ?_⟩, hg⟩
  · rintro rfl
    exact ht.none
  · rintro x rfl
    have e1 : srtK z [x] = [x] := rfl
    rw [e1] at ht
    by_cases e : txSee ws l 32 = 0
    · rw [e] at ht
      have := ht.zero
      simp at this
    · have := ht.mem e
      simpa using this
theorem tw_root_nil (h : TW w0 w T R ws z F []) :
    Calls Tryz.prog 17 #[.pointer (some ⟨T, 0, none⟩)] w fun e w' => e = .returned (.int .u64 0) ∧ w.grownBy w' none := by
  refine (tw_root h).mono ?_
  rintro e w' ⟨⟨r, rfl, h1, _⟩, hg⟩
  rw [h1 rfl]
  exact ⟨rfl, hg⟩
theorem tw_root_one {x : Nat} (h : TW w0 w T R ws z F [x]) :
    Calls Tryz.prog 17 #[.pointer (some ⟨T, 0, none⟩)] w fun e w' => e = .returned (.int .u64 x) ∧ w.grownBy w' none := by
  refine (tw_root h).mono ?_
  rintro e w' ⟨⟨r, rfl, _, h1⟩, hg⟩
  rw [h1 x rfl]
  exact ⟨rfl, hg⟩
theorem short_of : ∀ (n : Nat) {L : List Nat}, L.Nodup → (∀ x, x ∈ L → x < n) → L.length ≤ n
  | 0, L, _, h => by
    cases L with
    | nil => exact Nat.le_refl _
    | cons a L => exact absurd (h a (by simp)) (Nat.not_lt_zero _)
  | n + 1, L, hn, h => by
    by_cases hm : n ∈ L
    · have h1 := (List.perm_cons_erase hm).length_eq
      have h2 := short_of n (L := L.erase n) (hn.erase n) fun x hx => by
        have h3 := (hn.mem_erase_iff).1 hx
        have h4 := h x h3.2
        have h5 := h3.1
        omega
      simp only [List.length_cons] at h1
      omega
    · have := short_of n hn fun x hx => by
        have h4 := h x hx
        have h5 : x ≠ n := fun e => hm (e ▸ hx)
        omega
      omega
theorem FreeL.few (h : FreeL F) (hs : ∀ x, x ∈ L → x ∈ F) (hn : L.Nodup) : L.length ≤ 4800 :=
  short_of 4800 hn fun x hx => by
    have := h.on x (hs x hx)
    omega
theorem tw_all (h : TW w0 w T R ws z F L) :
    Calls Tryz.prog 12 #[.pointer (some ⟨T, 0, none⟩)] w fun e w' => ∃ v, e = .returned v ∧ OwnW w' w.heap.size v (srtK z L) ∧ w.grownBy w' none := by
  obtain ⟨M, B, D, l, h1, h2, h3⟩ := h
  exact tall_any h1.tx h2 h3.tame h3.tree (by rw [srtK_length]; have := h3.free.few h3.sub h3.nodup; omega)
theorem tw_after (h : TW w0 w T R ws z F L) (s o : Nat) :
    Calls Tryz.prog 15 #[.pointer (some ⟨T, 0, none⟩), .int .u64 s, .int .u64 o] w fun e w' => e = .returned (.tuple #[.int .u64 (atL (gtL z s o (srtK z L)) 0 : Nat), .bool (decide (0 < (gtL z s o (srtK z L)).length))]) ∧ w.grownBy w' none := by
  obtain ⟨M, B, D, l, h1, h2, h3⟩ := h
  exact tafter_any h1.tx h2 h3.tame h3.tree (by rw [srtK_length]; have := h3.free.few h3.sub h3.nodup; omega) s o
end
/-- What laid tells, shorter: z tells the sizes of the blocks. -/
def Laid7T (w : World) (n : Nat) (e : Ending) (w' : World) : Prop :=
  ∃ l N T R wv pv fv, Laid7 l N ∧ N ≤ n + 1 ∧ e = .returned (.tuple #[.pointer (some ⟨T, 0, none⟩), .agg #[wv, pv], fv]) ∧ TB w w' T R (fmt48 4800) (fun x => tS (txSee (fmt48 4800) l x)) (freeN (txSee (fmt48 4800) l) N) ∧ KW w' R w.heap.size wv (fmt48 4800) ∧ OwnP w' w.heap.size pv l ∧ KW w' R w.heap.size fv (freeN (txSee (fmt48 4800) l) N)
theorem laid7_tells {w : World} {la : Option Addr} {n c : Nat} {A B C : Nat → Nat} (hp : PiecesAt w la n A B C) (hc : n ≤ c) (hn : n ≤ maxLen) :
    Calls Tryz.prog 6 #[.slice la n c] w (Laid7T w n) := by
  refine (laid7_any hp hc hn).mono ?_
  rintro e w' ⟨l, N, hL, hN, B, D, T, M, R, wv, pv, fv, rfl, X, hrt, hf, g1, g2⟩
  refine ⟨l, N, T, R, wv, pv, fv, hL, hN, rfl, ⟨M, B, D, l, X, (laid7_facts hL).free.1, by rw [fmt48_len], fun _ _ => rfl⟩, ⟨hrt.words, g1⟩, hrt.puts, ⟨hf, g2⟩⟩
end Go.Proofs.YthhboidjibdahaaGreat
