/-
  Texts of one layer, one behind the other: memory, contracts of the functions, and what follows of them.
  Conditions: as each theorem says.
-/
import Derived.Test.YtmcnpenihoaajaaGreatLWoa
import Derived.Test.YtmcnpenihoaajaaGreatLWob
import Derived.Test.YtmcnpenihoaajaaGreatLCla
import Derived.Laws.StructEq
import Derived.Deep.AppendLies
import Derived.Laws.AppendOwnNone
import Derived.Test.YtmcnpenihoaajaaGreatLTxa
import Derived.Deep.RegionHeld3
set_option linter.unusedVariables false
set_option linter.unusedSimpArgs false
namespace Go.Proofs.YtmcnpenihoaajaaGreat
def dAt (i : Nat) : Nat := 3392 + 24 * i
section
variable {f g : Nat → Nat} {h h' a b a' b' n k i j p : Nat}
variable {N : Nat → Nat → Nat → Prop}
end
end Go.Proofs.YtmcnpenihoaajaaGreat
namespace Go.Proofs.YtmcnpenihoaajaaGreat
open Go.RowKit
set_option maxRecDepth 100000
def hN (s : ByteArray) : Nat := (hashTo s s.size).toNat
def hD (s : ByteArray) : Nat := hN s % 16
def nmOk (s : ByteArray) : Prop := 1 ≤ s.size ∧ s.size ≤ 15
instance (s : ByteArray) : Decidable (nmOk s) := by unfold nmOk; infer_instance
def loD (s : ByteArray) : Nat := if nmOk s then loS s else 0
def hiD (s : ByteArray) : Nat := if nmOk s then hiS s else 0
end Go.Proofs.YtmcnpenihoaajaaGreat
namespace Go.Proofs.YtmcnpenihoaajaaGreat
open Go.RowKit
set_option maxRecDepth 100000
def nameD (a b : Nat) : Option ByteArray := if nmOk (strOf a b (byteAt a b 0)) ∧ loD (strOf a b (byteAt a b 0)) = a ∧ hiD (strOf a b (byteAt a b 0)) = b then some (strOf a b (byteAt a b 0)) else none
theorem nameD_some {a b : Nat} {s : ByteArray} (h : nameD a b = some s) : nmOk s ∧ loD s = a ∧ hiD s = b := by
  unfold nameD at h
  split at h
  · rename_i h1
    injection h with h
    rw [← h]
    exact h1
  · cases h
theorem nameD_is {s : ByteArray} (hs : nmOk s) : nameD (loD s) (hiD s) = some s := by
  have e1 : loD s = loS s := if_pos hs
  have e2 : hiD s = hiS s := if_pos hs
  have e3 : strOf (loD s) (hiD s) (byteAt (loD s) (hiD s) 0) = s := by
    rw [e1, e2, byte_first s (by have := hs.2; omega), str_of]
  unfold nameD
  rw [e3, if_pos ⟨hs, rfl, rfl⟩]
theorem nameD_none {a b : Nat} (h : nameD a b = none) (s : ByteArray) (hs : nmOk s) : ¬ (loD s = a ∧ hiD s = b) := fun ⟨e1, e2⟩ => by
  rw [← e1, ← e2, nameD_is hs] at h
  cases h
theorem bothname13 {a b : Nat} (ha : a < 18446744073709551616) (hb : b < 18446744073709551616) :
    (∀ w : World, Calls Tryz.prog 110 #[.agg #[.int .u64 a, .int .u64 b]] w fun e w' => e = .returned (.tuple #[.string ((nameD a b).getD ByteArray.empty), .bool (nameD a b).isSome]) ∧ w.grownBy w' none) ∧
    (∀ w : World, Calls Tryz.prog 104 #[.agg #[.int .u64 a, .int .u64 b]] w fun e w' => e = .returned (.tuple #[.string ((nameD a b).getD ByteArray.empty), .bool (nameD a b).isSome]) ∧ w.grownBy w' none) := by
  cases h : nameD a b with
  | some s =>
    obtain ⟨hs, rfl, rfl⟩ := nameD_some h
    have e1 : loD s = loS s := if_pos hs
    have e2 : hiD s = hiS s := if_pos hs
    rw [e1, e2]
    exact ⟨fun w => (name_yes s hs.1 hs.2 w).mono fun e w' ⟨h1, h2⟩ => ⟨h1, below_grown h2⟩, fun w => (rname_yes s hs.1 hs.2 w).mono fun e w' ⟨h1, h2⟩ => ⟨h1, below_grown h2⟩⟩
  | none =>
    have hno : ∀ s : ByteArray, 1 ≤ s.size → s.size ≤ 15 → ¬ (loS s = a ∧ hiS s = b) := fun s x y e => nameD_none h s ⟨x, y⟩ ⟨by unfold loD; rw [if_pos ⟨x, y⟩]; exact e.1, by unfold hiD; rw [if_pos ⟨x, y⟩]; exact e.2⟩
    exact ⟨fun w => (name_no a b ha hb hno w).mono fun e w' ⟨h1, h2⟩ => ⟨h1, below_grown h2⟩, fun w => (rname_no a b ha hb hno w).mono fun e w' ⟨h1, h2⟩ => ⟨h1, below_grown h2⟩⟩
def cellsNm (l : List (ByteArray × Nat)) : List Value := l.flatMap fun p => [.string p.1, .int .u64 (p.2 : Nat)]
def OwnN (w : World) (base : Nat) (t : TypeId) (v : Value) (l : List (ByteArray × Nat)) : Prop := w.ownsRow base t 2 v l.length (cellsNm l)
def entS (l : List (ByteArray × Nat)) (k : Nat) : ByteArray := (l.getD k (ByteArray.empty, 0)).1
def entO (l : List (ByteArray × Nat)) (k : Nat) : Nat := (l.getD k (ByteArray.empty, 0)).2
theorem cellsNm_app (a b : List (ByteArray × Nat)) : cellsNm (a ++ b) = cellsNm a ++ cellsNm b := by simp [cellsNm, List.flatMap_append]
theorem cellsNm_at (l : List (ByteArray × Nat)) (k : Nat) (h : k < l.length) : (cellsNm l)[k * 2]? = some (.string (entS l k)) ∧ (cellsNm l)[k * 2 + 1]? = some (.int .u64 (entO l k : Nat)) := by
  induction l generalizing k with
  | nil => exact absurd h (Nat.not_lt_zero _)
  | cons p r ih =>
    have e : cellsNm (p :: r) = .string p.1 :: .int .u64 (p.2 : Nat) :: cellsNm r := rfl
    rw [e]
    rcases k with _ | k
    · exact ⟨rfl, rfl⟩
    · have := ih k (by simpa using h)
      rw [show (k + 1) * 2 = k * 2 + 1 + 1 by omega, List.getElem?_cons_succ, List.getElem?_cons_succ, List.getElem?_cons_succ, List.getElem?_cons_succ]
      exact this
theorem OwnN.later {w w' : World} {base : Nat} {t : TypeId} {v : Value} {l : List (ByteArray × Nat)} (h : OwnN w base t v l) (hg : w.grownBy w' none) : OwnN w' base t v l := own_kept h hg
theorem OwnN.mono {w : World} {base base' : Nat} {t : TypeId} {v : Value} {l : List (ByteArray × Nat)} (h : OwnN w base t v l) (hb : base' ≤ base) : OwnN w base' t v l := World.ownsRow.mono h hb
theorem OwnN.form {w : World} {base : Nat} {t : TypeId} {v : Value} {l : List (ByteArray × Nat)} (h : OwnN w base t v l) : ∃ a c, v = .slice a l.length c := by
  rcases h.2 with ⟨h1, h2⟩ | ⟨g, cap, cur, hv, _⟩
  · exact ⟨none, 0, by rw [h1, h2]⟩
  · exact ⟨_, cap, hv⟩
theorem OwnN.new {w : World} {base g : Nat} {t : TypeId} {v : Value} {l : List (ByteArray × Nat)} (h : OwnN w base t v l) (hg : v.ownBlock = some g) : base ≤ g := by
  rcases h.2 with ⟨h1, _⟩ | ⟨g2, cap, cur, hv, hb, _⟩
  · rw [h1] at hg; cases hg
  · rw [hv] at hg
    have hg' : some g2 = some g := hg
    injection hg' with hg'
    omega
section
variable {w w' : World} {f : Nat → Nat} {wv pv : Value} {p : Nat}
end
end Go.Proofs.YtmcnpenihoaajaaGreat
namespace Go.Proofs.YtmcnpenihoaajaaGreat
open Go.RowKit Go.Shelf
set_option maxRecDepth 100000
attribute [local go_sem] Oper.semAt_some
section
variable {w w' : World} {b : Nat} {x y z p x' y' z' p' : Value} {t : TypeId}
theorem four_cellsX (h : w.heap[b]? = some (.cells #[x, y, z, p] t (0, 0))) : w.cell? ⟨b, 0, none⟩ = some x ∧ w.cell? ⟨b, 1, none⟩ = some y ∧ w.cell? ⟨b, 2, none⟩ = some z ∧ w.cell? ⟨b, 3, none⟩ = some p :=
  ⟨by simp [World.cell?, h], by simp [World.cell?, h], by simp [World.cell?, h], by simp [World.cell?, h]⟩
theorem four_frozen (h : w.heap[b]? = some (.cells #[x, y, z, p] t (0, 0))) : w.frozen? ⟨b, 0, none⟩ = false ∧ w.frozen? ⟨b, 1, none⟩ = false ∧ w.frozen? ⟨b, 2, none⟩ = false ∧ w.frozen? ⟨b, 3, none⟩ = false :=
  ⟨by simp [World.frozen?, h], by simp [World.frozen?, h], by simp [World.frozen?, h], by simp [World.frozen?, h]⟩
theorem four_first (hg : (w.alloc (.cells #[x, y, z, p] t)).grownBy w' none) : w'.heap[w.heap.size]? = some (.cells #[x, y, z, p] t (0, 0)) := by
  have h1 : (w.alloc (.cells #[x, y, z, p] t)).heap[w.heap.size]? = some (.cells #[x, y, z, p] t (0, 0)) := heap_alloc_new' _ _
  exact (hg.block _ (lt_of_block h1) (by simp)).trans h1
theorem four_putX (h : w.heap[b]? = some (.cells #[x, y, z, p] t (0, 0))) : ((((w.setCell ⟨b, 0, none⟩ x').setCell ⟨b, 1, none⟩ y').setCell ⟨b, 2, none⟩ z').setCell ⟨b, 3, none⟩ p').heap[b]? = some (.cells #[x', y', z', p'] t (0, 0)) := by
  rw [heap_setCell_same (heap_setCell_same (heap_setCell_same (heap_setCell_same h x') y') z') p']; rfl
theorem four_set : w.grownBy ((((w.setCell ⟨b, 0, none⟩ x').setCell ⟨b, 1, none⟩ y').setCell ⟨b, 2, none⟩ z').setCell ⟨b, 3, none⟩ p') (some b) := grown_trans (grown_set _ _ _ _) (grown_trans (grown_set _ _ _ _) (grown_trans (grown_set _ _ _ _) (grown_set _ _ _ _)))
end
def TLd (w : World) (p : Option Addr) (f : Nat → Nat) : Prop := ∀ V x, w.grownBy V none → x < 18446744073709551616 → Calls Tryz.prog 66 #[.pointer p, .int .u64 (x : Nat)] V fun e w' => e = .returned (.int .u64 (f x : Nat)) ∧ V.grownBy w' none
theorem TLd.later {w w' : World} {p : Option Addr} {f : Nat → Nat} (h : TLd w p f) (hg : w.grownBy w' none) : TLd w' p f := fun V x hV hx => h V x (grown_trans hg hV) hx
theorem tld_nil (w : World) : TLd w none (fun _ => 0) := fun V x hV hx => (txload_nil x V).mono fun e V' ⟨h1, h2⟩ => ⟨h1, h2 ▸ grown_refl _ _⟩
def slV (f : Nat → Nat) (i : Nat) : Value := .agg #[.int .u64 (dAt i : Nat), .int .u64 (f (dAt i) : Nat), .int .u64 (f (dAt i + 8) : Nat), .int .u64 (f (dAt i + 16) : Nat)]
theorem cstands_any (q : Nat) (w : World) : Calls Tryz.prog 109 #[.int .u64 (q : Nat)] w fun e w' => e = .returned (.bool (decide (1 < q))) ∧ w = w' := by
  rcases (show q = 0 ∨ q = 1 ∨ 1 < q by omega) with rfl | rfl | h
  · go_enter Tryz.func109, Tryz.ntmps109
    go_wp2
    go_ret
    exact ⟨rfl, rfl⟩
  · go_enter Tryz.func109, Tryz.ntmps109
    go_wp2
    go_ret
    exact ⟨rfl, rfl⟩
  · rw [decide_eq_true h]
    have h0 : ((q : Int) == 0) = false := by simp; omega
    have h1 : ((q : Int) == 1) = false := by simp; omega
    have h2 : ((q : Int) != 0) = true := by simp; omega
    have h3 : ((q : Int) != 1) = true := by simp; omega
    go_enter Tryz.func109, Tryz.ntmps109
    go_wp2
    go_ret
    exact ⟨rfl, rfl⟩
set_option maxHeartbeats 2000000 in
theorem dread_any {w : World} {p : Option Addr} {f : Nat → Nat} (hld : TLd w p f) {i : Nat} (hi : i < 16) :
    Calls Tryz.prog 144 #[.pointer p, .int .u64 (i : Nat)] w fun e w' => e = .returned (slV f i) ∧ w.grownBy w' none := by
  have hd : dAt i + 16 < 4000 := by unfold dAt; omega
  have e2 : IntKind.u64.wrap (24 * (i : Int)) = ((24 * i : Nat) : Int) := by rw [IntKind.wrap_u64]; omega
  have e3 : IntKind.u64.wrap (3392 + ((24 * i : Nat) : Int)) = ((dAt i : Nat) : Int) := by rw [IntKind.wrap_u64]; unfold dAt; omega
  unfold slV
  obtain ⟨d, ed⟩ : ∃ d, dAt i = d := ⟨_, rfl⟩
  obtain ⟨k, ek⟩ : ∃ k, 24 * i = k := ⟨_, rfl⟩
  rw [ed] at e3 hd ⊢
  rw [ek] at e2 e3
  have e8 : IntKind.u64.wrap ((d : Int) + 8) = ((d + 8 : Nat) : Int) := by rw [IntKind.wrap_u64]; omega
  have e16 : IntKind.u64.wrap ((d : Int) + 16) = ((d + 16 : Nat) : Int) := by rw [IntKind.wrap_u64]; omega
  have h0 := fun V (hg : w.grownBy V none) => hld V d hg (by omega)
  have h8 := fun V (hg : w.grownBy V none) => hld V (d + 8) hg (by omega)
  have h16 := fun V (hg : w.grownBy V none) => hld V (d + 16) hg (by omega)
  obtain ⟨a, ea⟩ : ∃ a, f d = a := ⟨_, rfl⟩
  obtain ⟨b, eb⟩ : ∃ a, f (d + 8) = a := ⟨_, rfl⟩
  obtain ⟨c, ec⟩ : ∃ a, f (d + 16) = a := ⟨_, rfl⟩
  rw [ea, eb, ec]
  simp only [ea] at h0
  simp only [eb] at h8
  simp only [ec] at h16
  obtain ⟨d8, ed8⟩ : ∃ q, d + 8 = q := ⟨_, rfl⟩
  obtain ⟨d16, ed16⟩ : ∃ q, d + 16 = q := ⟨_, rfl⟩
  rw [ed8] at e8 h8
  rw [ed16] at e16 h16
  have H0 := Lib.hid h0
  have H8 := Lib.hid h8
  have H16 := Lib.hid h16
  have hg0 : w.grownBy (w.alloc (.cells #[.int .u64 0, .int .u64 0, .int .u64 0, .int .u64 0] 190)) none := World.grownBy_alloc _ _ _
  have hbx : ∀ V, (w.alloc (.cells #[.int .u64 0, .int .u64 0, .int .u64 0, .int .u64 0] 190)).grownBy V none → V.heap[w.heap.size]? = some (.cells #[.int .u64 0, .int .u64 0, .int .u64 0, .int .u64 0] 190 (0, 0)) := fun V hg => four_first hg
  have HB := Lib.hid hbx
  clear ea eb ec ed8 ed16 ed ek hd hld h0 h8 h16 hi hbx
  go_enter Tryz.func144, Tryz.ntmps144
  go_wp2_with (first
    | (go_at_call 66; (with_reducible refine (H0.out _ hg0).mono ?_); rintro e w1 ⟨rfl, hg1⟩; have g1 := grown_trans hg0 hg1)
    | (go_at_call 66; (with_reducible refine (H8.out _ g1).mono ?_); rintro e w2 ⟨rfl, hg2⟩; have g2 := grown_trans g1 hg2)
    | (go_at_call 66; (with_reducible refine (H16.out _ g2).mono ?_); rintro e w3 ⟨rfl, hg3⟩; have g3 := grown_trans g2 hg3; have h4 := HB.out _ (grown_trans hg1 (grown_trans hg2 hg3)); obtain ⟨x0, x1, x2, x3⟩ := four_cellsX h4; obtain ⟨z0, z1, z2, z3⟩ := four_frozen h4))
  obtain ⟨k0, k1, k2, k3⟩ := four_cellsX (four_putX h4 (x' := .int .u64 d) (y' := .int .u64 a) (z' := .int .u64 b) (p' := .int .u64 c))
  refine bodyPost_ret (v := .agg #[.int .u64 d, .int .u64 a, .int .u64 b, .int .u64 c]) (by simp [results, Tryz.results144, go_sem, k0, k1, k2, k3]) rfl ?_
  exact ⟨rfl, grown_new (grown_trans (grown_any g3 _) four_set) (Nat.le_refl _)⟩
def RdK (n tb : Nat) (p q : Value) (A C : World) : Prop := Below n A C ∧ (Boxed A tb 66 p → Boxed C tb 66 p) ∧ (Boxed A (tb + 1) 22 q → Boxed C (tb + 1) 22 q)
section
variable {n tb : Nat} {p q : Value} {A C E w0 : World}
theorem RdK.refl (n tb : Nat) (p q : Value) (A : World) : RdK n tb p q A A := ⟨Below.refl _ _, id, id⟩
theorem RdK.trans (h : RdK n tb p q A C) (k : RdK n tb p q C E) : RdK n tb p q A E := ⟨h.1.trans k.1, fun b => k.2.1 (h.2.1 b), fun b => k.2.2 (h.2.2 b)⟩
theorem RdK.put (hn : n ≤ w0.heap.size) (hb : tb + 1 < w0.heap.size) (W : World) (l : Nat) (o o' : Obj) (hl : w0.heap.size ≤ l) (h : W.heap[l]? = some o) (hc : o.isCells = false) (hw : o.isWalk = false) : RdK n tb p q W (W.putObj l o') :=
  ⟨belowK_b (w := w0) hn W l o o' hl h hc hw, fun b => by
    unfold Boxed at b ⊢
    rw [World.putObj_heap_other (by omega)]
    exact b, fun b => by
    unfold Boxed at b ⊢
    rw [World.putObj_heap_other (by omega)]
    exact b⟩
theorem RdK.grown {row : Option Nat} (hn : n ≤ A.heap.size) (hg : A.grownBy C row) (hr : ∀ r, row = some r → n ≤ r ∧ r ≠ tb ∧ r ≠ tb + 1) : RdK n tb p q A C :=
  ⟨(Below.refl n A).grown hg hn (fun k e => (hr k e).1), fun b => b.kept hg (fun e => (hr tb e.symm).2.1 rfl), fun b => b.kept hg (fun e => (hr (tb + 1) e.symm).2.2 rfl)⟩
end
theorem cround_any (p : Option Addr) (n : Nat) (w : World) : Calls Tryz.prog 108 #[.pointer p, .int .u64 n] w fun e w' => e = .returned (.func (.func 143) #[] #[.pointer (some ⟨w.heap.size, 0, none⟩), .pointer (some ⟨w.heap.size + 1, 0, none⟩)]) ∧ (w.alloc (.cells #[.pointer p] 66)).alloc (.cells #[.int .u64 n] 22) = w' := by
  go_enter Tryz.func108, Tryz.ntmps108
  go_wp2
  go_ret
  exact ⟨rfl, rfl⟩
set_option maxHeartbeats 2000000 in
theorem cround_stops {w w0 : World} {tb n : Nat} {p : Option Addr} {f : Nat → Nat} (hld : TLd w p f) (hn : n < 18446744073709551616)
    (hw0 : Below w.heap.size w w0) (hbx : Boxed w0 tb 66 (.pointer p)) (hbn : Boxed w0 (tb + 1) 22 (.int .u64 n)) :
    SeqStopsK Fence.wide 5 Tryz.prog 143 #[.pointer (some ⟨tb, 0, none⟩), .pointer (some ⟨tb + 1, 0, none⟩)] (fun x : Nat => #[slV f ((n % 16 + x) % 16)]) (RdK w.heap.size tb (.pointer p) (.int .u64 n)) (fun ys => ys = List.range 16) (fun pre => ∃ k, k < 16 ∧ pre = List.range (k + 1)) 16 w0 := by
  intro yl J Jx W hW hJ hJx hY h0
  show CallsIn Fence.wide 5 Tryz.prog 143 #[.func (.yield yl) #[] #[], .pointer (some ⟨tb, 0, none⟩), .pointer (some ⟨tb + 1, 0, none⟩)] W _
  have hbW : Boxed W tb 66 (.pointer p) := (hW.block tb hbx.lt).trans hbx
  have hnW : Boxed W (tb + 1) 22 (.int .u64 n) := (hW.block (tb + 1) hbn.lt).trans hbn
  have hBW : Below w.heap.size w W := hw0.grown (below_grown hW) hw0.size (fun k e => by cases e)
  have HJ := Lib.hid hJ
  have HY := Lib.hid hY
  have HLD := Lib.hid hld
  have hsz := hBW.size
  clear hY hJ hJx hld
  refine callsIn_of_wp Tryz.func143 rfl trivial ?_ rfl
  simp only [Tryz.ntmps143, List.size_toArray, List.length_cons, List.length_nil, Nat.reduceAdd, Nat.reduceSub, Array.replicate_succ, Array.replicate_zero, List.push_toArray, List.append_toArray, List.nil_append, List.cons_append]
  gi_wp2
  gi_loopw [5] (fun i wr => ∃ k : Nat, k ≤ 16 ∧ i = .int .u64 k ∧ J (List.range k) wr ∧ Below w.heap.size w wr ∧ W.heap.size ≤ wr.heap.size ∧ Boxed wr tb 66 (.pointer p) ∧ Boxed wr (tb + 1) 22 (.int .u64 n)) (fun i _ => 16 - (intOf i).toNat)
  case atStart => exact ⟨0, Nat.zero_le _, rfl, h0, hBW, Nat.le_refl _, hbW, hnW⟩
  case round =>
    obtain ⟨k, hk, rfl, hJk, hB, hsW, hb, hbq⟩ := hrel
    clear h0
    by_cases h1 : k < 16
    · obtain ⟨m, em⟩ : ∃ m, (n + k) % 18446744073709551616 = m := ⟨_, rfl⟩
      obtain ⟨j, ej⟩ : ∃ j, (n % 16 + k) % 16 = j := ⟨_, rfl⟩
      have hj : j < 16 := by omega
      have a1 : IntKind.u64.wrap ((n : Int) + (k : Int)) = (m : Int) := by rw [IntKind.wrap_u64]; omega
      have a2 : (m : Int) % 16 = (j : Int) := by omega
      have a2' : (m : Int).tmod 16 = (j : Int) := by rw [Int.tmod_eq_emod_of_nonneg (by omega)]; omega
      have a3 : IntKind.u64.wrap (j : Int) = (j : Int) := by rw [IntKind.wrap_u64]; omega
      have hs := (callsIn_wide (n := 4)).2 (dread_any (HLD.out.later (below_grown hB)) hj)
      have cb := hb.cell
      have cq := hbq.cell
      have HJk := Lib.hid hJk
      have h16 : (k : Int) < 16 := by omega
      have hyk : ∀ W2, J (List.range k) W2 → YieldAt Fence.wide 4 Tryz.prog yl #[slV f j] W2 _ := fun W2 h2 => by
        have := HY.out (List.range k) k W2 h2 (by simpa using h1)
        simp only [ej] at this
        rw [← List.range_succ] at this
        exact this
      have HYK := Lib.hid hyk
      clear hJk hyk em ej hj
      gi_wp2_with (refine ⟨trivial, ?_⟩; gi_at_call 144; (with_reducible refine hs.mono ?_); rintro e w2 ⟨rfl, hg2⟩; have hJ2 := HJ.out _ _ _ _ HJk.out hg2 (fun r e => by cases e); obtain ⟨fn, tmps, assign, body, hyy, hR⟩ := HYK.out w2 hJ2)
      refine hR.mono ?_
      rintro e W3 (⟨rfl, hJ3, hk3⟩ | ⟨rfl, hJx3⟩)
      · have hb3 : Boxed W3 tb 66 (.pointer p) := hk3.2.1 (hb.kept hg2 (by simp))
        have hq3 : Boxed W3 (tb + 1) 22 (.int .u64 n) := hk3.2.2 (hbq.kept hg2 (by simp))
        have hB3 : Below w.heap.size w W3 := (hB.grown hg2 hB.size (fun k e => by cases e)).trans hk3.1
        have hs3 := Nat.le_trans hsW (Nat.le_trans hg2.size hk3.1.size)
        gi_wp2
        go_roundw
        case rel => exact ⟨k + 1, by omega, by go_num, hJ3, hB3, hs3, hb3, hq3⟩
        case measure => simp [intOf]; omega
      · gi_wp2
        refine bodyPost_ret (results_none rfl _ _ _) rfl ?_
        exact ⟨⟨_, rfl⟩, .inr ⟨_, ⟨k, h1, rfl⟩, hJx3⟩⟩
    · obtain rfl : k = 16 := by omega
      gi_wp2
      go_end0
      exact ⟨⟨_, rfl⟩, .inl ⟨_, rfl, hJk⟩⟩
end Go.Proofs.YtmcnpenihoaajaaGreat
namespace Go.Proofs.YtmcnpenihoaajaaGreat
open Go.RowKit
set_option maxRecDepth 100000
def entAt (f : Nat → Nat) (i : Nat) : Option (ByteArray × Nat) := if 1 < f (dAt i + 16) then (nameD (f (dAt i)) (f (dAt i + 8))).map fun s => (s, f (dAt i + 16)) else none
def entK (f : Nat → Nat) (n : Nat) : List (ByteArray × Nat) := (List.range n).filterMap (entAt f)
section
variable {w w' : World} {f : Nat → Nat} {wv pv : Value}
end
end Go.Proofs.YtmcnpenihoaajaaGreat
namespace Go.Proofs.YtmcnpenihoaajaaGreat
open Go.RowKit Go.Shelf
set_option maxRecDepth 100000
attribute [local go_sem] Oper.semAt_some
theorem cells_past13 {X Y : World} {row : Option Nat} {n : Nat} (hg : X.grownBy Y row) (hr : ∀ r, row = some r → n ≤ r ∧ ∃ o : Obj, X.heap[r]? = some o ∧ o.isCells = false) {b : Nat} {c : Array Value} {t : TypeId} {fr : Nat × Nat} (h : X.heap[b]? = some (.cells c t fr)) : Y.heap[b]? = some (.cells c t fr) :=
  (hg.block b (lt_of_block h) fun e => by
    obtain ⟨_, o, ho, hc⟩ := hr _ e.symm
    rw [h] at ho; cases ho; cases hc).trans h
def slC (f : Nat → Nat) (i : Nat) : Array Value := #[.int .u64 (dAt i : Nat), .int .u64 (f (dAt i) : Nat), .int .u64 (f (dAt i + 8) : Nat), .int .u64 (f (dAt i + 16) : Nat)]
end Go.Proofs.YtmcnpenihoaajaaGreat
namespace Go.Proofs.YtmcnpenihoaajaaGreat
open Go.RowKit
set_option maxRecDepth 100000
theorem cellsNm_len (l : List (ByteArray × Nat)) : (cellsNm l).length = l.length * 2 := by
  induction l with
  | nil => rfl
  | cons p r ih =>
    have e : cellsNm (p :: r) = .string p.1 :: .int .u64 (p.2 : Nat) :: cellsNm r := rfl
    rw [e, List.length_cons, List.length_cons, ih, List.length_cons]
    omega
theorem OwnN.addr {w : World} {base : Nat} {t : TypeId} {v : Value} {l : List (ByteArray × Nat)} (h : OwnN w base t v l) : ∃ a c g, v = .slice a l.length c ∧ (0 < l.length → a = some ⟨g, 0, none⟩) ∧
    ∀ w', OwnN w' base t v l → ∀ k, k < l.length → w'.cell? ⟨g, k * 2, none⟩ = some (.string (entS l k)) ∧ w'.cell? ⟨g, k * 2 + 1, none⟩ = some (.int .u64 (entO l k : Nat)) := by
  rcases h.2 with ⟨h1, h2⟩ | ⟨g, cap, cur, hv, _⟩
  · exact ⟨none, 0, 0, by rw [h1, h2], fun h => by omega, fun w' _ j hj => by omega⟩
  · refine ⟨_, cap, g, hv, fun _ => rfl, fun w' h' k hk => ?_⟩
    rw [hv] at h'
    have hl := cellsNm_len l
    have c0 := World.ownsRow.cellAt h' (k * 2) (by omega)
    have c1 := World.ownsRow.cellAt h' (k * 2 + 1) (by omega)
    obtain ⟨e0, e1⟩ := cellsNm_at l k hk
    exact ⟨c0.trans e0, c1.trans e1⟩
end Go.Proofs.YtmcnpenihoaajaaGreat
namespace Go.Proofs.YtmcnpenihoaajaaGreat
open Go.RowKit Go.Shelf
set_option maxRecDepth 100000
attribute [local go_sem] Oper.semAt_some
theorem info_ent : (Tryz.prog.info? 132).map (fun i => (i.zero, i.size, i.bytes)) = some (some (.agg #[.string ByteArray.empty, .int .u64 0]), 2, 24) := by kernel_rfl
def entP (f : Nat → Nat) (pre : List Nat) : List (ByteArray × Nat) := pre.filterMap fun k => entAt f ((0 % 16 + k) % 16)
theorem entP_snoc (f : Nat → Nat) (pre : List Nat) (x : Nat) : entP f (pre ++ [x]) = entP f pre ++ (entAt f ((0 % 16 + x) % 16)).toList := by
  unfold entP
  rw [List.filterMap_append]
  have h : List.filterMap (fun k => entAt f ((0 % 16 + k) % 16)) [x] = (entAt f ((0 % 16 + x) % 16)).toList := by
    rw [List.filterMap_cons]
    cases entAt f ((0 % 16 + x) % 16) with
    | none => rfl
    | some y => rfl
  rw [h]
theorem fm_congr13 {α β : Type} {f g : α → Option β} : ∀ {l : List α}, (∀ x ∈ l, f x = g x) → l.filterMap f = l.filterMap g
  | [], _ => rfl
  | x :: l, h => by
    rw [List.filterMap_cons, List.filterMap_cons, h x (by simp), fm_congr13 fun y hy => h y (List.mem_cons_of_mem _ hy)]
theorem entP_len (f : Nat → Nat) (pre : List Nat) : (entP f pre).length ≤ pre.length := List.length_filterMap_le _ _
theorem entP_all (f : Nat → Nat) : entP f (List.range 16) = entK f 16 := by
  unfold entP entK
  refine fm_congr13 fun k hk => ?_
  have := List.mem_range.1 hk
  rw [show (0 % 16 + k) % 16 = k by omega]
structure AlI13 (w : World) (f : Nat → Nat) (bw : Nat) (pre : List Nat) (W : World) : Prop where
  row : ∃ v, Boxed W w.heap.size 130 v ∧ OwnN W w.heap.size 132 v (entP f pre)
  below : Below w.heap.size w W
  big : bw ≤ W.heap.size
theorem own_ent {base : Nat} {A : World} {t : TypeId} {v : Value} {xs : List (ByteArray × Nat)} {g : Nat} (h : OwnN A base t v xs) (hg : v.ownBlock = some g) : base ≤ g ∧ g < A.heap.size ∧ ∃ c fr, A.heap[g]? = some (.cells c t fr) := by
  obtain ⟨_, cur, hb⟩ := row_block h hg
  exact ⟨(World.ownsRow.lt h g hg).1, (World.ownsRow.lt h g hg).2, cur, _, hb⟩
theorem AlI13.own (w : World) (n : Nat) (f : Nat → Nat) (bw : Nat) (hn : w.heap.size ≤ n) : OwnFrom n (AlI13 w f bw) := fun pre X Y row hs hg hr => by
  have hc : ∀ {b : Nat} {c : Array Value} {t : TypeId} {fr : Nat × Nat}, X.heap[b]? = some (.cells c t fr) → row ≠ some b := fun h e => by
    obtain ⟨_, o, ho, hc⟩ := hr _ e
    rw [h] at ho; cases ho; cases hc
  obtain ⟨v, h1, h2⟩ := hs.row
  refine ⟨⟨v, h1.kept hg (fun e => hc h1 e.symm), ?_⟩, hs.below.grown hg hs.below.size (fun k e => Nat.le_trans hn (hr k e).1), Nat.le_trans hs.big hg.size⟩
  refine World.ownsRow.kept h2 hg ?_
  by_cases e : v.ownBlock = none
  · exact .inl e
  · refine .inr fun e2 => ?_
    obtain ⟨g, hg2⟩ := Option.ne_none_iff_exists'.1 e
    obtain ⟨_, _, c, fr, h3⟩ := own_ent h2 hg2
    exact hc h3 (by rw [← e2, hg2])
theorem AlI13.later {w W W' : World} {f : Nat → Nat} {bw : Nat} {pre : List Nat} (hs : AlI13 w f bw pre W) (hg : W.grownBy W' none) : AlI13 w f bw pre W' := by
  obtain ⟨v, h1, h2⟩ := hs.row
  exact ⟨⟨v, h1.kept hg (by simp), h2.later hg⟩, hs.below.grown hg hs.below.size (fun k e => by cases e), Nat.le_trans hs.big hg.size⟩
set_option maxHeartbeats 4000000 in
theorem call13_in {w : World} {p : Option Addr} {f : Nat → Nat} (hld : TLd w p f) (hf : ∀ x, f x < 18446744073709551616) :
    CallsIn Fence.wide 6 Tryz.prog 68 #[.pointer p] w fun e w' => ∃ v, e = .returned v ∧ OwnN w' w.heap.size 132 v (entK f 16) ∧ w.grownBy w' none := by
  obtain ⟨i0, hi, hz0, hz1, hz2⟩ := info_parts info_ent
  have hro : ∀ V : World, CallsIn Fence.wide 5 Tryz.prog 108 #[.pointer p, .int .u64 0] V _ := fun V => (callsIn_wide (n := 5)).2 (cround_any p 0 V)
  have hst := fun (W0 : World) (tb : Nat) => cround_stops (w0 := W0) (tb := tb) (f := f) (w := w) (p := p) (n := 0) hld (by decide)
  replace hst : ∀ (W0 : World) (tb : Nat), Below w.heap.size w W0 → Boxed W0 tb 66 (.pointer p) → Boxed W0 (tb + 1) 22 (.int .u64 0) → SeqStopsK Fence.wide 5 Tryz.prog 143 #[.pointer (some ⟨tb, 0, none⟩), .pointer (some ⟨tb + 1, 0, none⟩)] (fun x : Nat => #[slV f ((0 % 16 + x) % 16)]) (RdK w.heap.size tb (.pointer p) (.int .u64 0)) (fun ys => ys = List.range 16) (fun pre => ∃ k, k < 16 ∧ pre = List.range (k + 1)) 16 W0 := hst
  have HST := Lib.hid hst
  have HF := Lib.hid hf
  clear hst hld hf
  have r1 := Boxed.new w 130 (.slice none 0 0)
  have hgr : w.grownBy (w.alloc (.cells #[.slice none 0 0] 130)) none := World.grownBy_alloc _ _ _
  have hsA : (w.alloc (.cells #[.slice none 0 0] 130)).heap.size = w.heap.size + 1 := by simp
  refine callsIn_of_wp_marks Tryz.func68 rfl trivial ?_ rfl
  simp only [Tryz.ntmps68, List.size_toArray, List.length_cons, List.length_nil, Nat.reduceAdd, Nat.reduceSub, Array.replicate_succ, Array.replicate_zero, List.push_toArray, List.append_toArray, List.nil_append, List.cons_append]
  gi_wp2_with (first | (refine ⟨trivial, ?_⟩; gi_at_call 108; (with_reducible refine (hro _).mono ?_); rintro e w3 ⟨rfl, rfl⟩))
  obtain ⟨A0, hA0⟩ : ∃ W, w.alloc (.cells #[.slice none 0 0] 130) = W := ⟨_, rfl⟩
  rw [hA0] at hgr r1 hsA ⊢
  obtain ⟨A1, hA1⟩ : ∃ W, A0.alloc (.cells #[.pointer p] 66) = W := ⟨_, rfl⟩
  have b3 : Boxed A1 (w.heap.size + 1) 66 (.pointer p) := by rw [← hA1, ← hsA]; exact Boxed.new _ _ _
  have hz1' : A1.heap.size = w.heap.size + 1 + 1 := by rw [← hA1, World.size_alloc, hsA]
  have g3 : A0.grownBy A1 none := by rw [← hA1]; exact World.grownBy_alloc _ _ _
  rw [hA1]
  obtain ⟨W0, hW0⟩ : ∃ W, A1.alloc (.cells #[.int .u64 0] 22) = W := ⟨_, rfl⟩
  have b4 : Boxed W0 (w.heap.size + 1 + 1) 22 (.int .u64 0) := by rw [← hW0, ← hz1']; exact Boxed.new _ _ _
  have hz2' : W0.heap.size = w.heap.size + 3 := by rw [← hW0, World.size_alloc, hz1']
  have g4 : A1.grownBy W0 none := by rw [← hW0]; exact World.grownBy_alloc _ _ _
  rw [hW0]
  have g34 := grown_trans g3 g4
  have gA := grown_trans hgr g34
  have k1 := r1.kept g34 (by simp)
  have k4 := b3.kept g4 (by simp)
  have hseq := HST.out W0 (w.heap.size + 1) (grown_below gA) k4 b4
  clear hW0 hA0 hA1 HST hro b3 b4 k4 r1 g3 g4 g34 hgr hz1' hsA
  refine wpIn_rangeFunc_ownH rfl (by decide) (gf := 143) (lb := #[.pointer (some ⟨w.heap.size + 1, 0, none⟩), .pointer (some ⟨w.heap.size + 1 + 1, 0, none⟩)]) rfl trivial (enters_of Tryz.func143 (by kernel_rfl) rfl) hseq (fun h k => RdK.trans h k) (fun W l o o' hl h hc hw => RdK.put (w0 := W0) gA.size (by omega) W l o o' hl h hc hw) (Below.refl _ _) (fun _ => rfl)
    (AlI13 w f (w.heap.size + 3)) (fun _ _ _ => False) (AlI13.own w _ f _ gA.size) (fun _ _ _ _ _ hs _ _ => hs)
    ⟨⟨_, k1, World.ownsRow_nil _ _ _ _⟩, grown_below gA, by omega⟩
    (fun x a' W => ∃ B, w.heap.size + 3 ≤ B ∧ W.heap[B]? = some (.cells (slC f ((0 % 16 + x) % 16)) 190 (0, 0)) ∧ a' = { tmps := #[.pointer p, undef, .slice none 0 0, .pointer (some ⟨w.heap.size, 0, none⟩), .pointer (some ⟨B, 0, none⟩), undef, undef, .pointer p, .func (.func 143) #[] #[.pointer (some ⟨w.heap.size + 1, 0, none⟩), .pointer (some ⟨w.heap.size + 1 + 1, 0, none⟩)], slV f ((0 % 16 + x) % 16), undef, undef, undef, undef, undef, undef, undef, undef, undef, undef, undef, undef, undef, undef, undef, undef, undef, undef, undef], defers := [] })
    (fun x a' _ X Y row hs hg hr => by
      obtain ⟨B, q1, q2, q3⟩ := hs
      exact ⟨B, q1, cells_past13 hg hr q2, q3⟩)
    ?assign ?body ?done ?stop
  case assign =>
    rintro yl pre x W K hI hK
    obtain ⟨j, ej⟩ : ∃ j, (0 % 16 + x) % 16 = j := ⟨_, rfl⟩
    rw [ej] at hK ⊢
    unfold slC at hK
    unfold slV at hK ⊢
    gi_wp2
    exact hK _ _ ((KeepsOthers.alloc _ _).from _) (RdK.grown (row := none) hI.below.size (World.grownBy_alloc _ _ _) (fun r e => by cases e)) (hI.later (World.grownBy_alloc _ _ _)) ⟨W.heap.size, hI.big, heap_alloc_new' _ _, rfl⟩
  case body =>
    rintro yl pre x a' W hl ⟨r, hr⟩ hI ⟨B, hB, hc, rfl⟩ hlt2
    have hcs := fun (q : Nat) V => (callsIn_wide (n := 3)).2 (cstands_any q V)
    have hsn := entP_snoc f pre x
    have hlen := entP_len f pre
    unfold entAt at hsn
    obtain ⟨v, hv, hrow⟩ := hI.row
    obtain ⟨c0, c1, c2, c3⟩ := four_cellsX hc
    obtain ⟨j, ej⟩ : ∃ j, (0 % 16 + x) % 16 = j := ⟨_, rfl⟩
    unfold slV
    unfold slC at hc
    rw [ej] at hc c0 c1 c2 c3 hsn ⊢
    obtain ⟨d, ed⟩ : ∃ d, dAt j = d := ⟨_, rfl⟩
    rw [ed] at hc c0 c1 c2 c3 hsn ⊢
    have hnm := fun V => (callsIn_wide (n := 3)).2 ((bothname13 (HF.out d) (HF.out (d + 8))).1 V)
    obtain ⟨x0, ex0⟩ : ∃ q, f d = q := ⟨_, rfl⟩
    obtain ⟨x8, ex8⟩ : ∃ q, f (d + 8) = q := ⟨_, rfl⟩
    obtain ⟨x16, ex16⟩ : ∃ q, f (d + 16) = q := ⟨_, rfl⟩
    simp only [ex0, ex8, ex16] at hc c0 c1 c2 c3 hsn hnm ⊢
    obtain ⟨o, eo⟩ : ∃ o, nameD x0 x8 = o := ⟨_, rfl⟩
    rw [eo] at hnm hsn
    obtain ⟨sn, esn⟩ : ∃ s, o.getD ByteArray.empty = s := ⟨_, rfl⟩
    obtain ⟨ok, eok⟩ : ∃ b, o.isSome = b := ⟨_, rfl⟩
    rw [esn, eok] at hnm
    have hcs1 := hcs x16
    have cv := hv.cell
    have zv := hv.frozen
    have HC := Lib.hid hc
    have HV := Lib.hid hv
    by_cases hx1 : 1 < x16
    · rw [decide_eq_true hx1] at hcs1
      cases ok with
      | true =>
        have hen : entP f (pre ++ [x]) = entP f pre ++ [(sn, x16)] := by
          rw [hsn, if_pos hx1]
          cases o with
          | none => cases eok
          | some s => simp only [Option.getD_some] at esn; subst esn; rfl
        have HEN := Lib.hid hen
        have HI := Lib.hid hI
        have HROW := Lib.hid hrow
        have hpl : (entP f pre).length ≤ 16 := by omega
        clear hI hsn hlen hen hx1 hcs hc hv eo esn eok ex0 ex8 ex16 ed ej
        gi_wp2_with (first
          | (refine ⟨trivial, ?_⟩; gi_at_call 109; (with_reducible refine (CallsIn.inRound yl (hcs1 _)).mono ?_); rintro e w2 ⟨rfl, rfl⟩)
          | (refine ⟨trivial, ?_⟩; gi_at_call 110; (with_reducible refine (CallsIn.inRound yl (hnm _)).mono ?_); rintro e w2 ⟨rfl, hg2⟩; have hc2 := (hg2.block _ (lt_of_block HC.out) (by simp)).trans HC.out; have hv2 := HV.out.kept hg2 (by simp); obtain ⟨c0, c1, c2, c3⟩ := four_cellsX hc2; have cv := hv2.cell; have zv := hv2.frozen)
          | (gi_at_builtin; go_must (refine wpListIn_append_own _ rfl _ _ 130 rfl w.heap.size 132 i0 (.agg #[.string ByteArray.empty, .int .u64 0]) 2 24 Tryz.underlying130 hi hz0 hz1 hz2 rfl (by decide) _ _ _ rfl ((HROW.out.later hg2).alloc _) ⟨w2.heap.size, 0, none⟩ 1 1 [.string sn, .int .u64 (x16 : Nat)] rfl rfl (cells_two_new _ _ _ _) (by simp [Value.oneCell']) (by unfold maxLen; omega) (by omega) (by have := HI.out.below.size; have := hg2.size; simp; omega) ?_); intro v' w4 hown' hgrow _; obtain ⟨g', cap', rfl⟩ := ownsRow_succ hown'; obtain ⟨hv1, hv3, hr2, hk2, hb2⟩ := hv2.appended (by decide) (HROW.out.later hg2) (Nat.le_trans HI.out.below.size hg2.size) (Nat.le_refl _) hown' hgrow; have hc1 := hv1.cell; have hf1 := hv1.frozen))
        have hgw := World.grownBy_alloc w2 (.cells #[.string sn, .int .u64 (x16 : Nat)] 132) none
        have hne : ∀ {b : Nat} {t : TypeId} {u : Value}, Boxed w2 b t u → t ≠ 132 → some b ≠ v.ownBlock := fun hb ht e => by
          obtain ⟨_, _, c, fr, h3⟩ := own_ent (HROW.out.later hg2) e.symm
          rw [show w2.heap[_]? = _ from hb] at h3
          injection h3 with h3
          injection h3 with _ h3 _
          exact ht h3
        have hks : ∀ {b : Nat} {t : TypeId} {u : Value}, Boxed w2 b t u → t ≠ 132 → b ≠ w.heap.size → Boxed (w4.setCell ⟨w.heap.size, 0, none⟩ (.slice (some ⟨g', 0, none⟩) ((entP f pre).length + 1) cap')) b t u := fun hb ht hn =>
          ((hb.kept hgw (by simp)).kept hgrow (hne hb ht)).kept (grown_set _ _ _ _) (fun e => hn (by injection e))
        have hB2 := HI.out.below.grown hg2 HI.out.below.size (fun k e => by cases e)
        refine ⟨(KeepsFrom.of_grownBy hg2 (fun j e => by cases e)).trans (hk2.from _), (RdK.grown HI.out.below.size hg2 (fun r e => by cases e)).trans ⟨hb2, fun b => hks b (by decide) (by omega), fun b => hks b (by decide) (by omega)⟩, ⟨⟨_, hv3, ?_⟩, hB2.trans hb2, Nat.le_trans HI.out.big (Nat.le_trans hg2.size hb2.size)⟩⟩
        rw [HEN.out]
        unfold OwnN
        rw [cellsNm_app, List.length_append]
        exact hr2
      | false =>
        have hen : entP f (pre ++ [x]) = entP f pre := by
          rw [hsn, if_pos hx1]
          cases o with
          | none => simp
          | some s => cases eok
        have HEN := Lib.hid hen
        have HI := Lib.hid hI
        clear hI hsn hlen hen hx1 hcs hc hv eo esn eok ex0 ex8 ex16 ed ej hrow
        gi_wp2_with (first
          | (refine ⟨trivial, ?_⟩; gi_at_call 109; (with_reducible refine (CallsIn.inRound yl (hcs1 _)).mono ?_); rintro e w2 ⟨rfl, rfl⟩)
          | (refine ⟨trivial, ?_⟩; gi_at_call 110; (with_reducible refine (CallsIn.inRound yl (hnm _)).mono ?_); rintro e w2 ⟨rfl, hg2⟩; have hc2 := (hg2.block _ (lt_of_block HC.out) (by simp)).trans HC.out; have hv2 := HV.out.kept hg2 (by simp); obtain ⟨c0, c1, c2, c3⟩ := four_cellsX hc2; have cv := hv2.cell; have zv := hv2.frozen))
        have H2 := HI.out.later hg2
        obtain ⟨v2, q1, q2⟩ := H2.row
        exact ⟨(KeepsFrom.of_grownBy hg2 (fun j e => by cases e)), RdK.grown HI.out.below.size hg2 (fun r e => by cases e), ⟨⟨v2, q1, by rw [HEN.out]; exact q2⟩, H2.below, H2.big⟩⟩
    · rw [decide_eq_false hx1] at hcs1
      have hen : entP f (pre ++ [x]) = entP f pre := by
        rw [hsn, if_neg hx1]
        simp
      have HEN := Lib.hid hen
      have HI := Lib.hid hI
      clear hI hsn hlen hen hx1 hcs hc hv eo esn eok ex0 ex8 ex16 ed ej hrow
      gi_wp2_with (first | (refine ⟨trivial, ?_⟩; gi_at_call 109; (with_reducible refine (CallsIn.inRound yl (hcs1 _)).mono ?_); rintro e w2 ⟨rfl, rfl⟩))
      obtain ⟨v2, q1, q2⟩ := HI.out.row
      exact ⟨(KeepsOthers.refl _).from _, RdK.refl _ _ _ _ _, ⟨⟨v2, q1, by rw [HEN.out]; exact q2⟩, HI.out.below, HI.out.big⟩⟩
  case done =>
    rintro D2 ys W hD rfl hI hK
    obtain ⟨v, hv, hrow⟩ := hI.row
    have hB := hI.below
    rw [entP_all] at hrow
    obtain ⟨va, vc, hvv⟩ := hrow.form
    obtain ⟨vn, evn⟩ : ∃ n, (entK f 16).length = n := ⟨_, rfl⟩
    rw [evn] at hvv
    clear evn
    subst hvv
    have hc := hv.cell
    have HROW := Lib.hid hrow
    clear hI hrow
    gi_wp2
    refine ⟨by simp, .inl ⟨_, _, rfl, run_takeDeferred hK, ?_⟩⟩
    exact ⟨.slice va vn vc, by simp [results, Tryz.results68, go_sem], .slice va vn vc, rfl, ownsRow_putObj HROW.out _ hK rfl, below_grown (hB.trans (belowK_b (w := w) (Nat.le_refl _) W D2 _ _ (by have := gA.size; omega) hK rfl rfl))⟩
  case stop =>
    rintro D2 c pre W _ _ h _
    exact h.elim
theorem call13_any {w : World} {p : Option Addr} {f : Nat → Nat} (hld : TLd w p f) (hf : ∀ x, f x < 18446744073709551616) :
    Calls Tryz.prog 68 #[.pointer p] w fun e w' => ∃ v, e = .returned v ∧ OwnN w' w.heap.size 132 v (entK f 16) ∧ w.grownBy w' none := callsIn_wide.1 (call13_in hld hf)
end Go.Proofs.YtmcnpenihoaajaaGreat
