/-
  The plain answer of layer 7: Turned: blocks in another turn.
  Conditions: the numbers lie in memory; they are at most a million; the steps are small.
-/
import Derived.Test.YthhboidjibdahaaGreatTreeSa
import Derived.Test.YthhboidjibdahaaGreatLTx
namespace Go.Proofs.YthhboidjibdahaaGreat
open Go.RowKit
set_option linter.unusedVariables false
set_option linter.unusedSimpArgs false
set_option maxRecDepth 100000

section
variable {w : World} {la : Option Addr} {c : Nat} {L : List Nat}
def lenV : Value → Nat
  | .slice _ n _ => n
  | _ => 0
/-- between two rounds of Turned -/
structure TuI (w wr : World) (L : List Nat) (v1 v2 : Value) (A Lf : List Nat) : Prop where
  out : OwnW wr w.heap.size v1 A
  left : OwnW wr w.heap.size v2 Lf
  ne : ∀ g, v1.ownBlock = some g → v2.ownBlock ≠ some g
  perm : (A ++ Lf).Perm L
  grown : w.grownBy wr none
theorem own_lt {A : World} {base g : Nat} {v : Value} {xs : List Nat} (h : OwnW A base v xs) (hg : v.ownBlock = some g) : base ≤ g ∧ g < A.heap.size := World.ownsRow.lt h g hg
/-- one has been told: those that are left lie as they lay -/
structure TuM (w wr w5 : World) (la2 : Option Addr) (Lf : List Nat) : Prop where
  at_ : WordsAt w5 la2 Lf
  lt : ∀ q, q ≤ Lf.length → (Lf.take q).length = q
  grown : w.grownBy w5 none
theorem tu_mid {wr w5 : World} {v1 v5 : Value} {la2 : Option Addr} {c2 : Nat} {A Lf : List Nat} {y : Nat} (hT : TuI w wr L v1 (.slice la2 Lf.length c2) A Lf) (hown : OwnW w5 w.heap.size v5 (A ++ [y])) (hg : wr.grownBy w5 v1.ownBlock) (hl : v5.ownBlock = v1.ownBlock ∨ v5.ownBlock = some (wr.heap.size + 1)) : Hid (TuM w wr w5 la2 Lf) := Lib.hid (by
  have hk : OwnW w5 w.heap.size (.slice la2 Lf.length c2) Lf := World.ownsRow.kept hT.left hg (by
    by_cases e : (Value.slice la2 Lf.length c2).ownBlock = none
    · exact .inl e
    · refine .inr fun e2 => ?_
      obtain ⟨g, hg2⟩ := Option.ne_none_iff_exists'.1 e
      exact hT.ne g (by rw [← e2, hg2]) hg2)
  obtain ⟨la, c, hv, hat⟩ := hk.lie
  injection hv with e1 _ _
  subst e1
  exact ⟨hat, fun q hq => by simp; omega, grown_step hT.grown hg (fun i hi => .inl (own_lt hT.out hi).1)⟩)
theorem tu_drop {wr w5 w6 : World} {bl off c2 m : Nat} {o : Obj} {Lf : List Nat} (hm : Lf.length = m) (hb : bl < wr.heap.size) (hs : wr.heap.size ≤ w5.heap.size) (h : WordsAt w5 (some ⟨bl, off, none⟩) Lf) (hg : (w5.alloc o).grownBy w6 (some w5.heap.size)) (q : Nat) (hq : q < m) (hc : m ≤ c2) : Hid (WordsAt w6 (if c2 = q + 1 then some ⟨bl, off, none⟩ else some ⟨bl, off + (q + 1), none⟩) (Lf.drop (q + 1))) :=
  Lib.hid (by
    split
    · exact ⟨fun hn => by simp at hn; omega⟩
    · exact ((h.later (World.grownBy_alloc w5 o none)).kept hg (fun a e => by injection e with e; subst e; show bl ≠ _; omega)).drop (q + 1))
/-- the end of a round: one less is left, one more is told -/
theorem tu_next {wr w5 w6 w7 : World} {v1 v2 v5 v6 v7 : Value} {A Lf : List Nat} {y q : Nat} (hT : TuI w wr L v1 v2 A Lf) (hown : OwnW w5 w.heap.size v5 (A ++ [y])) (hg5 : wr.grownBy w5 v1.ownBlock) (hq : q < Lf.length) (hy : Lf.getD q 0 = y)
    (hg6 : (w5.alloc (.cells #[] 33)).grownBy w6 (some w5.heap.size)) (hown6 : OwnW w6 w5.heap.size v6 ([] ++ Lf.take q)) (hg7 : w6.grownBy w7 v6.ownBlock) (hown7 : OwnW w7 w5.heap.size v7 ([] ++ Lf.take q ++ Lf.drop (q + 1))) : TuI w w7 L v5 v7 (A ++ [y]) ([] ++ Lf.take q ++ Lf.drop (q + 1)) := by
  have g5 : w.grownBy w5 none := grown_step hT.grown hg5 (fun i hi => .inl (own_lt hT.out hi).1)
  have g6 : w5.grownBy w6 none := grown_new (grown_trans (World.grownBy_alloc _ _ _) hg6) (Nat.le_refl _)
  have g7 : w5.grownBy w7 none := grown_step g6 hg7 (fun i hi => .inl (own_lt hown6 hi).1)
  refine ⟨hown.later g7, hown7.mono g5.size, fun g e e2 => ?_, ?_, grown_trans g5 g7⟩
  · have h1 := (own_lt hown e).2
    have h2 := (own_lt hown7 e2).1
    omega
  · have hp := pick_perm hq
    have hyq : Lf[q] = y := by rw [← hy, List.getD_eq_getElem?_getD, List.getElem?_eq_getElem hq]; rfl
    rw [hyq] at hp
    refine List.Perm.trans ?_ hT.perm
    rw [List.nil_append, List.append_assoc]
    exact List.Perm.append_left A hp
set_option maxHeartbeats 4000000 in
theorem rturned_any (hm : WordsAt w la L) (hlen : L.length ≤ 100000) (f st : Nat) (hf : f < 4294967296) (hst : st < 4294967296) :
    Calls Tryz.prog 8 #[.slice la L.length c, .int .i64 (f : Nat), .int .i64 (st : Nat)] w fun e w' => ∃ v K, e = .returned v ∧ OwnW w' w.heap.size v K ∧ K.Perm L ∧ w.grownBy w' none := by
  have hge : w.grownBy (w.alloc (.cells #[] 33)) none := World.grownBy_alloc _ _ _
  have hoe := own_empty w w.heap.size (Nat.le_refl _)
  have hmE := hm.later hge
  obtain ⟨n, hn⟩ : ∃ n, L.length = n := ⟨_, rfl⟩
  have HN := Lib.hid hn
  have HL := Lib.hid hlen
  have HM := Lib.hid hmE
  have HE := Lib.hid hoe
  rw [hn] at hlen
  rw [hn]
  clear hmE hm hoe
  go_enter Tryz.func8, Tryz.ntmps8
  go_wp2_with (first | (at_builtin; go_must (refine wpList_append_words (base := w.heap.size) (xs := []) (ys := L) HE.out HM.out (by have := HL.out; simp; omega) (by simp) rfl _ _ rfl rfl (by rw [HN.out]; rfl) ?_); intro v2 w2 hown2 hg2))
  have HS := Lib.hid (show TuI w w2 L (.slice none 0 0) v2 [] L from ⟨World.ownsRow_nil _ _ _ _, by simpa using hown2, fun g e => by simp [Value.ownBlock] at e, by simp, grown_new (grown_trans (grown_any hge _) hg2) (Nat.le_refl _)⟩)
  clear hown2 hg2 hge
  go_loopw [7, 8, 9] (fun v1 v2 p wr => ∃ A Lf a, p = .int .i64 (a : Nat) ∧ a < 8589934592 ∧ TuI w wr L v1 v2 A Lf) (fun v1 v2 p _ => lenV v2)
  case atStart => exact ⟨[], L, f, rfl, by omega, HS.out⟩
  case round =>
    obtain ⟨A, Lf, a, rfl, ha, hT⟩ := hrel
    obtain ⟨la2, c2, hv2, hat2⟩ := hT.left.lie
    subst hv2
    obtain ⟨va, vn, vc, hv1⟩ := wv_form hT.out
    subst hv1
    have HT := Lib.hid hT
    have hAl : A.length + Lf.length ≤ 100000 := by
      have := hT.perm.length_eq
      simp at this
      have := HL.out
      omega
    obtain ⟨m, hm⟩ : ∃ m, Lf.length = m := ⟨_, rfl⟩
    have HM2 := Lib.hid hm
    rw [hm] at hAl
    simp only [hm]
    rcases Nat.eq_zero_or_pos m with h0 | h0
    · subst h0
      clear hat2 hT hm
      go_wp2
      go_ret
      have hnil : Lf = [] := List.length_eq_zero_iff.1 HM2.out
      have hp := HT.out.perm
      rw [hnil, List.append_nil] at hp
      exact ⟨_, A, rfl, HT.out.out, hp, HT.out.grown⟩
    · obtain ⟨bl, off, rfl, hbl, hcs⟩ := hat2.cells (by omega)
      have hcap : m ≤ c2 := by
        rcases hT.left.2 with h9 | ⟨_, _, _, h9, _, _, h10, _⟩
        · have := h9.2; omega
        · injection h9 with _ _ h9; omega
      obtain ⟨q, hq⟩ : ∃ q, a % m = q := ⟨_, rfl⟩
      have hqm : q < m := by rw [← hq]; exact Nat.mod_lt _ h0
      have et : (a : Int).tmod (m : Int) = (q : Nat) := by rw [Int.tmod_eq_emod_of_nonneg (by omega), ← hq]; omega
      have cq := hcs q (by omega)
      obtain ⟨y, hy⟩ : ∃ y, Lf.getD q 0 = y := ⟨_, rfl⟩
      rw [hy] at cq
      have HY := Lib.hid hy
      have hm0 : ¬ (m : Int) = 0 := by omega
      have hmp : (0 : Int) < (m : Int) := by omega
      have hqm' : (q : Int) < (m : Int) := by omega
      have hqc : (q : Int) ≤ (c2 : Int) := by omega
      have hq1 : (q : Int) + 1 ≤ (m : Int) := by omega
      have ewm : IntKind.i64.wrap (m : Int) = (m : Nat) := by rw [IntKind.wrap_i64]; omega
      have ewa : IntKind.i64.wrap (a : Int) = (a : Nat) := by rw [IntKind.wrap_i64]; omega
      have ewq : IntKind.i64.wrap ((q : Int) + 1) = (q : Int) + 1 := by rw [IntKind.wrap_i64]; omega
      have ews : IntKind.i64.wrap ((q : Int) + (st : Int)) = (q + st : Nat) := by rw [IntKind.wrap_i64]; omega
      have hAs := hT.grown.size
      clear hat2 hT hm hcs hy
      go_wp2_with (first | (at_builtin; (refine wpList_append_num rfl _ _ rfl w.heap.size (.slice va vn vc) A rfl HT.out.out y rfl (by omega) hAs ?_); intro v5 w5 hown5 hg5 hloc5; obtain ⟨xa, xn, xc, hx5⟩ := wv_form hown5; subst hx5; have HA := tu_mid HT.out hown5 hg5 hloc5) | (at_builtin; (refine wpList_append_words (base := w5.heap.size) (xs := []) (ys := Lf.take q) (own_empty w5 _ (Nat.le_refl _)) ((HA.out.at_.take q).later (World.grownBy_alloc _ _ _)) (by have := HM2.out; simp; omega) (by simp) rfl _ _ rfl rfl (by rw [HA.out.lt q (by have := HM2.out; omega)]; rfl) ?_); intro v6 w6 hown6 hg6; obtain ⟨za, zn, zc, hx6⟩ := wv_form hown6; subst hx6; have HD := tu_drop (c2 := c2) HM2.out hbl hg5.size HA.out.at_ hg6 q hqm hcap) | (at_builtin; go_must (refine wpList_append_words (base := w5.heap.size) (xs := [] ++ Lf.take q) (ys := Lf.drop (q + 1)) hown6 HD.out (by have := HM2.out; simp; omega) (Nat.le_trans (by simp) hg6.size) rfl _ _ rfl rfl (by rw [List.length_drop, HM2.out]; rfl) ?_); intro v7 w7 hown7 hg7))
      go_roundw
      case rel => exact ⟨A ++ [y], _, q + st, by go_num, by omega, tu_next HT.out hown5 hg5 (by have := HM2.out; omega) HY.out hg6 hown6 hg7 hown7⟩
      case measure =>
        obtain ⟨l9, c9, h9, _⟩ := hown7.lie
        have := HM2.out
        rw [h9]
        simp only [lenV, List.nil_append, List.length_append, List.length_take, List.length_drop]
        omega
end
end Go.Proofs.YthhboidjibdahaaGreat
