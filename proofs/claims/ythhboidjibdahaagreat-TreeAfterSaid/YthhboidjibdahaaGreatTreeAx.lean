/-
  What the statements of layer 7 begin with, as they need it.
  Conditions: the pieces lie in memory.
-/
import Derived.Test.YthhboidjibdahaaGreatTreeAw
import Derived.Test.YthhboidjibdahaaGreatLTx
namespace Go.Proofs.YthhboidjibdahaaGreat
open Go.RowKit
set_option linter.unusedVariables false
set_option linter.unusedSimpArgs false

/-- what the plain answers ask of words, and of what is thought over them -/
structure RefOk (ws : List Nat) (l : List (Nat × Nat)) : Prop where
  words : ws.length ≤ 131072
  puts : l.length ≤ 1000000
  lt : ∀ q, txSee ws l q < 18446744073709551616
/-- What laid tells of a call that began at w. -/
structure LaidG (w w' : World) (T : Nat) (R : Option Nat) (ws : List Nat) (l : List (Nat × Nat)) (wv pv fv : Value) (F : List Nat) : Prop where
  tree : TB w w' T R ws (fun x => tS (txSee ws l x)) F
  free : KW w' R w.heap.size fv F
  words : KW w' R w.heap.size wv ws
  puts : OwnP w' w.heap.size pv l
  ok : RefOk ws l
  pos : 0 < F.length
  few : F.length ≤ 4800
theorem lie_at {w : World} {base : Nat} {a : Option Addr} {n c : Nat} {l : List Nat} (h : OwnW w base (.slice a n c) l) : WordsAt w a l := by
  obtain ⟨a', c', e, h'⟩ := h.lie
  cases e
  exact h'
theorem KW.lie {w : World} {R : Option Nat} {base : Nat} {a : Option Addr} {n c : Nat} {l : List Nat} (h : KW w R base (.slice a n c) l) : WordsAt w a l := lie_at h.1
theorem KW.own {w : World} {R : Option Nat} {base : Nat} {v : Value} {l : List Nat} (h : KW w R base v l) : OwnW w base v l := h.1
theorem laid7_from {w w1 : World} {la : Option Addr} {n c : Nat} {A B C : Nat → Nat} (hp : PiecesAt w la n A B C) (hc : n ≤ c) (hn : n ≤ maxLen) (hg : w.grownBy w1 none) :
    Calls Tryz.prog 6 #[.slice la n c] w1 fun e w' => ∃ ws T R wa wn wc pa pn pc F fa fc l, e = .returned (.tuple #[.pointer (some ⟨T, 0, none⟩), .agg #[.slice wa wn wc, .slice pa pn pc], .slice fa F.length fc]) ∧ LaidG w w' T R ws l (.slice wa wn wc) (.slice pa pn pc) (.slice fa F.length fc) F ∧ w1.grownBy w' none := by
  refine (laid7_tells (hp.later hg) hc hn).mono ?_
  rintro e w' ⟨l, N, T, R, wv, pv, fv, hL, hN, rfl, hB, hw, hpv, hf⟩
  obtain ⟨fa, fc, rfl⟩ := hf.1.slice
  obtain ⟨wa, wn, wc, rfl⟩ := wv_form hw.1
  obtain ⟨pa, pn, pc, rfl⟩ := pv_form hpv
  have hfr := hL.frees
  have hlen := (fmt48_len 4800)
  obtain ⟨M, B, D, l', t1, t2⟩ := hB
  refine ⟨_, T, R, wa, wn, wc, pa, pn, pc, _, fa, fc, l, rfl, ⟨⟨M, B, D, l', t1.from hg, t2⟩, hf.mono hg.size, hw.mono hg.size, World.ownsRow.mono hpv hg.size, ⟨by rw [hlen]; decide, ?_, ?_⟩, hfr.2, hfr.1.few (fun x hx => hx) hfr.1.nodup⟩, t1.since⟩
  · have := hL.ok.len
    omega
  · exact fun q => txSee_lt t1.tx.seg.words hL.ok q
/-- a row that is newer than the Tx -/
theorem KW.new {w0 w w' : World} {T : Nat} {R : Option Nat} {ws : List Nat} {z : Nat → Nat} {F L xs : List Nat} {v : Value} {base : Nat} (h : TW w0 w T R ws z F L) (ho : OwnW w' base v xs) (hb : w.heap.size ≤ base) : KW w' R base v xs := by
  refine ⟨ho, fun g hg e => ?_⟩
  obtain ⟨M, B, D, l, h1, _, _⟩ := h
  have h2 := h1.tx.ltR e
  have h3 := (World.ownsRow.lt ho g hg).1
  omega
theorem KW.cap {w : World} {R : Option Nat} {base : Nat} {a : Option Addr} {n c : Nat} {l : List Nat} (h : KW w R base (.slice a n c) l) : n ≤ c := by
  obtain ⟨a', c', e, _⟩ := h.1.lie
  rcases h.1.2 with h9 | ⟨_, _, _, h9, _, _, h10, _⟩
  · injection e with _ e _
    have := h9.2
    omega
  · injection e with _ e _
    injection h9 with _ _ h9
    omega
theorem drop_at {w : World} {b off m q c : Nat} {K : List Nat} (h : WordsAt w (some ⟨b, off, none⟩) K) (hm : K.length = m) (hq : q < m) (hc : m ≤ c) : WordsAt w (if c = q + 1 then some ⟨b, off, none⟩ else some ⟨b, off + (q + 1), none⟩) (K.drop (q + 1)) := by
  split
  · exact ⟨fun hn => by simp at hn; omega⟩
  · exact h.drop (q + 1)
theorem drop_get {K : List Nat} {k y : Nat} (hk : k < K.length) (hy : K.getD k 0 = y) : K.drop k = y :: K.drop (k + 1) := by
  rw [List.drop_eq_getElem_cons hk]
  congr 1
  rw [← hy, List.getD_eq_getElem?_getD, List.getElem?_eq_getElem hk]
  rfl
/-- a row of the caller's is turned: the tree stands -/
theorem TW.row {w0 w w' : World} {T : Nat} {R : Option Nat} {ws : List Nat} {z : Nat → Nat} {F L J : List Nat} {v : Value} {base : Nat} (X : TW w0 w T R ws z F L) (K : KW w R base v J) (hb : w0.heap.size ≤ base) (hg : w.grownBy w' v.ownBlock) : TW w0 w' T R ws z F L := by
  obtain ⟨M, B, D, l, h1, h2, h3⟩ := X
  refine ⟨M, B, D, l, ⟨h1.tx.turned (Turned.of_grown hg) (fun k hk => ?_), grown_step h1.since hg (fun i hi => .inl (Nat.le_trans hb (World.ownsRow.lt K.1 i hi).1)), h1.newT, h1.newM, h1.newR, h1.newB, h1.newD⟩, h2, h3⟩
  obtain ⟨_, cur, hbk⟩ := row_block K.1 hk
  obtain ⟨tv, k1, _⟩ := h1.tx.head
  obtain ⟨Da, k2, _⟩ := h1.tx.map
  obtain ⟨es, clock, k2⟩ := map_block k2
  refine ⟨?_, fun e => ne_type hbk h1.tx.seg.head (by decide) e, fun e => ne_type hbk h1.tx.seg.data (by decide) e⟩
  rintro (e | e | e)
  · exact ne_type hbk k1 (by decide) e
  · exact ne_map hbk k2 e
  · exact K.2 k hk e
/-- one more is put to such a row -/
theorem TW.app {w0 w w' : World} {T : Nat} {R : Option Nat} {ws : List Nat} {z : Nat → Nat} {F L J F' : List Nat} {v v' fv : Value} {base y : Nat} (X : TW w0 w T R ws z F L) (K : KW w R base v J) (hb : w0.heap.size ≤ base) (KF : KW w R w0.heap.size fv F') (hne : ∀ g, fv.ownBlock = some g → v.ownBlock ≠ some g)
    (hg : w.grownBy w' v.ownBlock) (hl : v'.ownBlock = v.ownBlock ∨ v'.ownBlock = some (w.heap.size + 1)) (ho : OwnW w' base v' (J ++ [y])) : TW w0 w' T R ws z F L ∧ KW w' R base v' (J ++ [y]) ∧ KW w' R w0.heap.size fv F' := by
  refine ⟨X.row K hb hg, ⟨ho, fun g e e2 => ?_⟩, ⟨World.ownsRow.kept KF.1 hg ?_, KF.2⟩⟩
  · rcases hl with h | h
    · exact K.2 g (by rw [← h]; exact e) e2
    · rw [h] at e
      obtain ⟨M, B, D, l, h1, _, _⟩ := X
      have h2 := h1.tx.ltR e2
      injection e with e
      omega
  · by_cases e : fv.ownBlock = none
    · exact .inl e
    · obtain ⟨g, hg2⟩ := Option.ne_none_iff_exists'.1 e
      refine .inr fun e2 => ?_
      rw [hg2] at e2
      exact hne g hg2 (e2.symm ▸ rfl)
theorem filter_out {L : List Nat} {y : Nat} (h : y ∉ L) : L.filter (fun a => decide (a ≠ y)) = L :=
  List.filter_eq_self.2 (by intro a ha; rw [decide_eq_true_eq]; intro e; exact h (e ▸ ha))
theorem filter_less {L : List Nat} {y : Nat} (h : y ∈ L) : (L.filter fun a => decide (a ≠ y)).length < L.length := by
  have h1 := List.length_filter_le (fun a => decide (a ≠ y)) L
  rcases Nat.lt_or_ge (L.filter fun a => decide (a ≠ y)).length L.length with h2 | h2
  · exact h2
  · have h3 := (List.length_filter_eq_length_iff (p := fun a => decide (a ≠ y)) (l := L)).1 (by omega) y h
    simp at h3
theorem filter_step {L : List Nat} {y k : Nat} (hk : k < L.length) {x : Nat} (hx : L.getD k 0 = x) : (L.take (k + 1)).filter (fun a => decide (a ≠ y)) = (L.take k).filter (fun a => decide (a ≠ y)) ++ if x = y then [] else [x] := by
  have h1 : L.take (k + 1) = L.take k ++ [x] := by
    rw [List.take_add_one, ← hx, List.getD_eq_getElem?_getD, List.getElem?_eq_getElem hk]
    rfl
  rw [h1, List.filter_append]
  congr 1
  by_cases e : x = y
  · rw [if_pos e]; simp [e]
  · rw [if_neg e]; simp [e]
end Go.Proofs.YthhboidjibdahaaGreat
