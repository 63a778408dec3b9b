/-
  Texts of one layer, one behind the other: memory, contracts of the functions, and what follows of them.
  Conditions: as each theorem says.
-/
import Derived.Test.YtcngmkfpbcemjaaGreatLSea
import Derived.Deep.AppendLies
import Derived.Deep.Onto
import Derived.Maps.OwnSet
import Derived.Maps.AppendAt
set_option linter.unusedVariables false
set_option linter.unusedSimpArgs false
namespace Go.Proofs.YtcngmkfpbcemjaaGreat
open Go.RowKit
theorem rmay_any (n : Nat) (hn : n < 18446744073709551616) (w : World) :
    Calls Tryz.prog 129 #[.int .u64 n] w fun e w' => e = .returned (.bool (decide (may n))) ∧ w = w' := by
  by_cases h0 : 0 < (n : Int)
  · by_cases h8 : (n : Int) % 8 = 0
    · have hd : decide (may n) = decide ((n : Int) ≤ 1048576) := by
        rw [decide_eq_decide]
        unfold may
        omega
      rw [hd]
      go_enter Tryz.func129, Tryz.ntmps129
      go_wp2
      go_ret
      exact ⟨rfl, rfl⟩
    · have hd : decide (may n) = false := decide_eq_false (by unfold may; omega)
      rw [hd]
      go_enter Tryz.func129, Tryz.ntmps129
      go_wp2
      go_ret
      exact ⟨rfl, rfl⟩
  · have hd : decide (may n) = false := decide_eq_false (by unfold may; omega)
    rw [hd]
    have : n = 0 := by omega
    subst this
    go_enter Tryz.func129, Tryz.ntmps129
    go_wp2
    go_ret
    exact ⟨rfl, rfl⟩
def OwnW (w : World) (base : Nat) (v : Value) (ws : List Nat) : Prop := w.ownsRow base 23 1 v ws.length (cellsU ws)
theorem OwnW.later {w w' : World} {base : Nat} {v : Value} {ws : List Nat} (h : OwnW w base v ws) (hg : w.grownBy w' none) : OwnW w' base v ws := own_kept h hg
theorem OwnW.slice {w : World} {base : Nat} {v : Value} {ws : List Nat} (h : OwnW w base v ws) : ∃ a c, v = .slice a ws.length c := by
  rcases h.2 with ⟨h1, h2⟩ | ⟨g, cap, cur, hv, _⟩
  · exact ⟨none, 0, by rw [h1, h2]⟩
  · exact ⟨_, _, hv⟩
theorem OwnW.mono {w : World} {base base' : Nat} {v : Value} {ws : List Nat} (h : OwnW w base v ws) (hb : base' ≤ base) : OwnW w base' v ws := World.ownsRow.mono h hb
theorem OwnW.at_ {w : World} {base g c : Nat} {ws : List Nat} (h : OwnW w base (.slice (some ⟨g, 0, none⟩) ws.length c) ws) (j : Nat) (hj : j < ws.length) : w.cell? ⟨g, j, none⟩ = some (.int .u64 (ws.getD j 0 : Nat)) := by
  have := World.ownsRow.cellAt h j (by omega)
  rw [this]
  simp [cellsU, List.getElem?_eq_getElem hj]
theorem make_words (n : Nat) (hn : n ≤ 1048576) (w : World) :
    (Instr.makeSlice 27 (.int .u64 n) (.int .u64 n)).run Tryz.prog w = .ok (.slice (some ⟨w.heap.size, 0, none⟩) n n) (w.alloc (.cells (madeCells #[.int .u64 0] n) 23)) := by
  obtain ⟨i, hi, hz, hs, hb⟩ := info_parts info_u64
  have h := run_make (P := Tryz.prog) w 27 23 i _ Tryz.underlying27 hi hz .u64 .u64 n n (by omega) (Int.le_refl _) (by rw [hb]; omega) (by omega)
  rw [h, hs]
  simp only [Int.toNat_natCast, Nat.mul_one]
  rfl
theorem made_words (m : Nat) : (madeCells (#[.int .u64 0] : Array Value) m).toList = cellsU (List.replicate m 0) := by
  rw [toList_madeCells_one]
  simp [cellsU]
theorem own_made (w : World) (m : Nat) (hm : m ≤ 131072) : OwnW (w.alloc (.cells (madeCells #[.int .u64 0] m) 23)) w.heap.size (.slice (some ⟨w.heap.size, 0, none⟩) m m) (List.replicate m 0) := by
  have h := World.ownsRow_lit (base := w.heap.size) (e := 23) (size := 1) w (madeCells #[.int .u64 0] m) m (Nat.le_refl _) (by unfold maxLen; omega) (by rw [size_madeCells, Nat.mul_one])
  unfold OwnW
  rw [List.length_replicate, ← made_words]
  exact h
theorem rnew_yes (m : Nat) (h1 : 1 ≤ m) (hm : m ≤ 131072) (w : World) :
    Calls Tryz.prog 96 #[.int .u64 (8 * m : Nat)] w fun e w' => e = .returned (.slice (some ⟨w.heap.size, 0, none⟩) m m) ∧ w.grownBy w' none ∧ OwnW w' w.heap.size (.slice (some ⟨w.heap.size, 0, none⟩) m m) (List.replicate m 0) := by
  have hc := rmay_any (8 * m) (by omega) w
  rw [decide_eq_true (show may (8 * m) from ⟨by omega, by omega, by omega⟩)] at hc
  have hmk := make_words m (by omega)
  obtain ⟨n, hn⟩ : ∃ n, 8 * m = n := ⟨_, rfl⟩
  rw [hn] at hc ⊢
  have hq : (n : Int) / 8 = (m : Int) := by omega
  have H := Lib.hid hn
  clear hn
  have ho := own_made w m hm
  go_enter Tryz.func96, Tryz.ntmps96
  go_wp2_with (go_at_call 129; refine hc.mono ?_; rintro e w' ⟨rfl, rfl⟩)
  go_ret
  exact ⟨rfl, World.grownBy_alloc _ _ _, ho⟩
theorem rin_any {w : World} {base : Nat} {v : Value} {ws : List Nat} (h : OwnW w base v ws) (hm : ws.length ≤ 131072) (off : Nat) (ho : off < 18446744073709551616) :
    Calls Tryz.prog 131 #[v, .int .u64 off] w fun e w' => e = .returned (.bool (decide (stands ws off))) ∧ w = w' := by
  obtain ⟨a, c, rfl⟩ := h.slice
  by_cases h8 : (off : Int) % 8 = 0
  · have hd : decide (stands ws off) = decide ((off : Int) / 8 < (ws.length : Int)) := by
      rw [decide_eq_decide]
      unfold stands
      omega
    rw [hd]
    go_enter Tryz.func131, Tryz.ntmps131
    go_wp2
    go_ret
    exact ⟨rfl, rfl⟩
  · have hd : decide (stands ws off) = false := decide_eq_false (by unfold stands; omega)
    rw [hd]
    go_enter Tryz.func131, Tryz.ntmps131
    go_wp2
    go_ret
    exact ⟨rfl, rfl⟩
theorem OwnW.addr {w : World} {base : Nat} {v : Value} {ws : List Nat} (h : OwnW w base v ws) : ∃ a c g, v = .slice a ws.length c ∧ (0 < ws.length → a = some ⟨g, 0, none⟩) ∧ ∀ w', OwnW w' base v ws → ∀ j, j < ws.length → w'.cell? ⟨g, j, none⟩ = some (.int .u64 (ws.getD j 0 : Nat)) := by
  rcases h.2 with ⟨h1, h2⟩ | ⟨g, cap, cur, hv, _⟩
  · exact ⟨none, 0, 0, by rw [h1, h2], fun h => by omega, fun w' _ j hj => by omega⟩
  · exact ⟨_, cap, g, hv, fun _ => rfl, fun w' h' j hj => by rw [hv] at h'; exact OwnW.at_ h' j hj⟩
end Go.Proofs.YtcngmkfpbcemjaaGreat
namespace Go.Proofs.YtcngmkfpbcemjaaGreat
open Go.RowKit
structure PutsAt (w : World) (la : Option Addr) (n : Nat) (X V : Nat → Nat) : Prop where
  lt : ∀ i, X i < 18446744073709551616 ∧ V i < 18446744073709551616
  cells : 0 < n → ∃ b off, la = some ⟨b, off, none⟩ ∧ b < w.heap.size ∧ ∀ i, i < n → w.cell? ⟨b, off + i * 2, none⟩ = some (.int .u64 (X i : Nat)) ∧ w.cell? ⟨b, off + i * 2 + 1, none⟩ = some (.int .u64 (V i : Nat))
theorem PutsAt.later {w w' : World} {la : Option Addr} {n : Nat} {X V : Nat → Nat} (h : PutsAt w la n X V) (hg : w.grownBy w' none) : PutsAt w' la n X V where
  lt := h.lt
  cells := fun hn => by
    obtain ⟨b, off, h1, h2, h3⟩ := h.cells hn
    refine ⟨b, off, h1, Nat.lt_of_lt_of_le h2 hg.size, fun i hi => ?_⟩
    have hb := hg.block b h2 (by simp)
    exact ⟨(World.cell?_of_block (w := w) (a := ⟨b, off + i * 2, none⟩) hb).trans (h3 i hi).1, (World.cell?_of_block (w := w) (a := ⟨b, off + i * 2 + 1, none⟩) hb).trans (h3 i hi).2⟩
end Go.Proofs.YtcngmkfpbcemjaaGreat
namespace Go.Proofs.YtcngmkfpbcemjaaGreat
open Go.RowKit
structure Turned (p : Nat → Prop) (w w' : World) : Prop where
  os : w'.os = w.os
  tape : w'.tape = w.tape
  output : w'.output = w.output
  size : w.heap.size ≤ w'.heap.size
  block : ∀ k, k < w.heap.size → ¬ p k → w'.heap[k]? = w.heap[k]?
theorem Turned.refl (p : Nat → Prop) (w : World) : Turned p w w := ⟨rfl, rfl, rfl, Nat.le_refl _, fun _ _ _ => rfl⟩
theorem Turned.mono {p q : Nat → Prop} {w w' : World} (h : Turned p w w') (hq : ∀ k, k < w.heap.size → p k → q k) : Turned q w w' :=
  ⟨h.os, h.tape, h.output, h.size, fun k hk hn => h.block k hk (fun hp => hn (hq k hk hp))⟩
theorem Turned.of_grown {w w' : World} {row : Option Nat} (h : w.grownBy w' row) : Turned (fun k => row = some k) w w' :=
  ⟨h.os, h.tape, h.output, h.size, fun k hk hn => h.block k hk (fun e => hn e.symm)⟩
theorem Turned.of_none {w w' : World} (h : w.grownBy w' none) (p : Nat → Prop) : Turned p w w' :=
  ⟨h.os, h.tape, h.output, h.size, fun k hk _ => h.block k hk (by simp)⟩
theorem Turned.trans {p q : Nat → Prop} {a b c : World} (h : Turned p a b) (k : Turned q b c) (hq : ∀ i, q i → p i ∨ a.heap.size ≤ i) : Turned p a c :=
  ⟨k.os.trans h.os, k.tape.trans h.tape, k.output.trans h.output, Nat.le_trans h.size k.size, fun i hi hn =>
    (k.block i (Nat.lt_of_lt_of_le hi h.size) (fun hk => by
      rcases hq i hk with h' | h'
      · exact hn h'
      · omega)).trans (h.block i hi hn)⟩
theorem Turned.later {p : Nat → Prop} {a b c : World} (h : Turned p a b) (k : b.grownBy c none) : Turned p a c := h.trans (Turned.of_none k (fun _ => False)) (fun _ hf => hf.elim)
theorem Turned.first {p : Nat → Prop} {a b c : World} (h : a.grownBy b none) (k : Turned p b c) : Turned p a c := (Turned.of_none h p).trans k (fun _ hp => .inl hp)
theorem Turned.grown {p : Nat → Prop} {a b : World} (h : Turned p a b) (hp : ∀ i, p i → a.heap.size ≤ i) : a.grownBy b none :=
  ⟨h.os, h.tape, h.output, h.size, fun i hi _ => h.block i hi (fun hk => by have := hp i hk; omega)⟩
theorem Turned.heap {p : Nat → Prop} {w w' : World} (h : Turned p w w') {b : Nat} {o : Obj} (hb : w.heap[b]? = some o) (hn : ¬ p b) : w'.heap[b]? = some o := (h.block b (lt_of_block hb) hn).trans hb
theorem Turned.row {w w' : World} {k : Nat} (h : Turned (fun i => i = k) w w') : w.grownBy w' (some k) :=
  ⟨h.os, h.tape, h.output, h.size, fun i hi hn => h.block i hi (fun e => hn (congrArg some e))⟩
section
variable {p : Nat → Prop} {w w' : World}
theorem IsSeg.turned {B D : Nat} {ws : List Nat} (h : IsSeg w B D ws) (ht : Turned p w w') (hB : ¬ p B) (hD : ¬ p D) : IsSeg w' B D ws where
  head := ht.heap h.head hB
  data := ht.heap h.data hD
  ne := h.ne
  words := h.words
  some1 := h.some1
  most := h.most
theorem row_turned {base : Nat} {e : TypeId} {size : Nat} {v : Value} {n : Nat} {xs : List Value} (h : w.ownsRow base e size v n xs) (ht : Turned p w w') (hne : ∀ g, v.ownBlock = some g → ¬ p g) : w'.ownsRow base e size v n xs := by
  refine ⟨h.1, ?_⟩
  rcases h.2 with hn | ⟨g, cap, cur, rfl, hb, hgg, rest⟩
  · exact .inl hn
  · exact .inr ⟨g, cap, cur, rfl, hb, ht.heap hgg (hne g rfl), rest⟩
theorem map_turned {H : Type} {P : Program} {k : TypeId} {R : Value → Option (DataW H × List MemPlace)} {b n : Nat} {D : DataW H} (h : w.ownsMap P k R b n D) (ht : Turned p w w') (hb : ¬ p b) : w'.ownsMap P k R b n D := by
  obtain ⟨es, clock, h1, rest⟩ := h
  exact ⟨es, clock, ht.heap h1 hb, rest⟩
end
theorem row_block {w : World} {base : Nat} {e : TypeId} {size : Nat} {v : Value} {n : Nat} {xs : List Value} (h : w.ownsRow base e size v n xs) {g : Nat} (hg : v.ownBlock = some g) : base ≤ g ∧ ∃ cur, w.heap[g]? = some (.cells cur e (0, 0)) := by
  rcases h.2 with ⟨rfl, _⟩ | ⟨g', cap, cur, rfl, hb, hgg, _⟩
  · cases hg
  · injection hg with hg
    subst hg
    exact ⟨hb, cur, hgg⟩
theorem map_block {H : Type} {w : World} {P : Program} {k : TypeId} {R : Value → Option (DataW H × List MemPlace)} {b n : Nat} {D : DataW H} (h : w.ownsMap P k R b n D) : ∃ es clock, w.heap[b]? = some (.map es clock) := by
  obtain ⟨es, clock, h1, _⟩ := h
  exact ⟨es, clock, h1⟩
theorem map_tight {H : Type} {w : World} {P : Program} {k : TypeId} {R : Value → Option (DataW H × List MemPlace)} {b n : Nat} {D : DataW H} (h : w.ownsMap P k R b n D) : w.ownsMap P k R b (Maps.size D) D := by
  obtain ⟨es, clock, h1, F, _, rfl⟩ := h
  exact ⟨es, clock, h1, F, by simp [Maps.size, length_sorted], rfl⟩
theorem ne_type {w : World} {a b : Nat} {c c' : Array Value} {t t' : TypeId} {f f' : Nat × Nat} (h : w.heap[a]? = some (.cells c t f)) (h' : w.heap[b]? = some (.cells c' t' f')) (hne : t ≠ t') : a ≠ b := by
  intro e
  subst e
  rw [h] at h'
  injection h' with h'
  injection h' with _ h2 _
  exact hne h2
theorem ne_map {w : World} {a b : Nat} {c : Array Value} {t : TypeId} {f : Nat × Nat} {es : Array MapEntry} {clock : Nat} (h : w.heap[a]? = some (.cells c t f)) (h' : w.heap[b]? = some (.map es clock)) : a ≠ b := by
  intro e
  subst e
  rw [h] at h'
  cases h'
end Go.Proofs.YtcngmkfpbcemjaaGreat
