/-
  What the statements of layer 9 begin with, as they need it; what they ask first (awake).
  Conditions: the pieces lie in memory.
-/
import Derived.Test.YtkpopaadkfgjaaaLedQ
import Derived.Test.YtkpopaadkfgjaaaLTx
import Derived.Deep.RegionHeld3
namespace Go.Proofs.Ytkpopaadkfgjaaa
open Go.RowKit
set_option linter.unusedVariables false
set_option linter.unusedSimpArgs false
set_option maxRecDepth 100000

/-- What laid tells of a call that began at w. -/
structure Laid9G (w w' : World) (T : Nat) (R : Option Nat) (U : List Nat) (tg : Nat → Nat) (fv : Value) : Prop where
  lists : LW w w' T R U tg fun _ => []
  grid : Grid U
  row : KW w' R w.heap.size fv U
  pos : 0 < U.length
  few : U.length ≤ 21
  nodup : U.Nodup
theorem three_of {U : List Nat} (h : U.length = 2 + 1) : ∃ a b c, U = [a, b, c] := by
  match U, h with
  | [a, b, c], _ => exact ⟨a, b, c, rfl⟩
theorem offL_nodup {f : Nat → Nat} : ∀ {k : Nat}, (∀ i j, i < j → j < k → offs f i < offs f j) → (offL f k).Nodup
  | 0, _ => List.nodup_nil
  | k + 1, h => by
    unfold offL
    rw [List.nodup_append]
    refine ⟨offL_nodup (fun i j hij hj => h i j hij (by omega)), by simp, fun x hx y hy => ?_⟩
    obtain ⟨j, h1, h2⟩ := offL_mem.1 hx
    have : y = offs f k := by simpa using hy
    have := h j k h1 (by omega)
    omega
/-- Which blocks, and which first words, so many pieces make. -/
def LaidU (A B C : Nat → Nat) (n : Nat) (U : List Nat) (tg : Nat → Nat) : Prop :=
  ∃ N, Laid7 (layZ A B C (min n 20)) N ∧ U = offL (txSee (fmt48 4800) (layZ A B C (min n 20))) N ∧ tg = fun x => txSee (fmt48 4800) (layZ A B C (min n 20)) x
theorem LaidU.one {A B C : Nat → Nat} {n : Nat} {U U' : List Nat} {tg tg' : Nat → Nat} (h : LaidU A B C n U tg) (h' : LaidU A B C n U' tg') : U = U' ∧ tg = tg' := by
  obtain ⟨N, h1, h2, h3⟩ := h
  obtain ⟨N', k1, k2, k3⟩ := h'
  have e : N = N' := by
    rcases Nat.lt_trichotomy N N' with e | e | e
    · have := (offs_step (n := N') (fun k hk => (k1.walks.lt k hk).2) e (Nat.le_refl _)).2
      rw [h1.ends, k1.ends] at this
      omega
    · exact e
    · have := (offs_step (n := N) (fun k hk => (h1.walks.lt k hk).2) e (Nat.le_refl _)).2
      rw [h1.ends, k1.ends] at this
      omega
  subst e
  exact ⟨h2.trans k2.symm, h3.trans k3.symm⟩
theorem laid9_told {w w1 : World} {la : Option Addr} {n c : Nat} {A B C : Nat → Nat} (hp : PiecesAt w1 la n A B C) (hc : n ≤ c) (hn : n ≤ maxLen) (hg : w.grownBy w1 none) :
    Calls Try.prog 12 #[.slice la n c] w1 fun e w' => ∃ T R U tg fa fc, e = .returned (.tuple #[.pointer (some ⟨T, 0, none⟩), .slice fa U.length fc]) ∧ Laid9G w w' T R U tg (.slice fa U.length fc) ∧ (n ≤ 6 → U.length = n + 1) ∧ w1.grownBy w' none ∧ LaidU A B C n U tg := by
  refine (laid9_any hp hc hn).mono ?_
  rintro e w' ⟨l, N, hL, hN, hZ, B', D, T, M, R, fv, rfl, hT, ho, hne⟩
  obtain ⟨hG, h0⟩ := hL.grid
  have hlen := offL_len (txSee (fmt48 4800) l) N
  obtain ⟨fa, fc, rfl⟩ := ho.slice
  have hst : ∀ c, c < 8 → txSee (fmt48 4800) l (slotH c) = 0 := fun c hc => by
    rw [hL.low _ (slotH_lt hc), see_nil, fmt48_yes fmt4800, getW_fmt (K := 600) fmt4800]
    rw [if_neg (by unfold slotH; omega), if_neg (by unfold slotH; omega), if_neg (by unfold slotH; omega), if_neg (by unfold slotH; omega), if_neg (by unfold slotH; omega), if_neg (by unfold slotH; omega), if_neg (by unfold slotH; omega)]
  refine ⟨T, R, _, fun x => txSee (fmt48 4800) l x, fa, fc, rfl, ⟨⟨M, B', D, l, hT.from hg, Ledg.none hst, fun x _ => rfl⟩, hG, ⟨ho.mono hg.size, hne⟩, by rw [hlen]; exact h0, by rw [hlen]; exact hN.2.1, ?_⟩, fun h6 => by rw [hlen]; exact hN.2.2 h6, hT.since, ⟨N, hZ ▸ hL, by rw [hZ], by rw [hZ]⟩⟩
  have hb : ∀ k, k < N → bkP (txSee (fmt48 4800) l) (offs (txSee (fmt48 4800) l) k) := fun k hk => (hL.walks.lt k hk).2
  exact offL_nodup (fun i j hij hj => by have := (offs_step hb hij (by omega)).2; omega)
theorem laid9_from {w w1 : World} {la : Option Addr} {n c : Nat} {A B C : Nat → Nat} (hp : PiecesAt w1 la n A B C) (hc : n ≤ c) (hn : n ≤ maxLen) (hg : w.grownBy w1 none) :
    Calls Try.prog 12 #[.slice la n c] w1 fun e w' => ∃ T R U tg fa fc, e = .returned (.tuple #[.pointer (some ⟨T, 0, none⟩), .slice fa U.length fc]) ∧ Laid9G w w' T R U tg (.slice fa U.length fc) ∧ (n ≤ 6 → U.length = n + 1) ∧ w1.grownBy w' none := by
  refine (laid9_told hp hc hn hg).mono ?_
  rintro e w' ⟨T, R, U, tg, fa, fc, h1, h2, h3, h4, _⟩
  exact ⟨T, R, U, tg, fa, fc, h1, h2, h3, h4⟩
theorem pieces_two (w : World) : PiecesAt (w.alloc (.cells #[.int .u8 0, .int .u8 0, .int .u16 0, .int .u8 0, .int .u8 0, .int .u16 0] 57)) (some ⟨w.heap.size, 0, none⟩) 2 (fun _ => 0) (fun _ => 0) (fun _ => 0) := ⟨fun _ => ⟨by decide, by decide, by decide⟩, fun _ => ⟨_, 0, rfl, by rw [World.size_alloc]; omega, fun i hi => by
  have h1 := heap_alloc_new' w (.cells #[.int .u8 0, .int .u8 0, .int .u16 0, .int .u8 0, .int .u8 0, .int .u16 0] 57)
  rcases (show i = 0 ∨ i = 1 by omega) with rfl | rfl <;> (unfold World.cell?; simp only [h1]; exact ⟨rfl, rfl, rfl⟩)⟩⟩
/-- a row that is newer than the Tx -/
theorem LW.new {w0 w w' : World} {T : Nat} {R : Option Nat} {U : List Nat} {tg : Nat → Nat} {L : Nat → List Nat} {v : Value} {base : Nat} {xs : List Nat} (h : LW w0 w T R U tg L) (ho : OwnW w' base v xs) (hb : w.heap.size ≤ base) : KW w' R base v xs := by
  refine ⟨ho, fun g hg e => ?_⟩
  obtain ⟨M, B, D, l, h1, _, _⟩ := h
  have h2 := h1.tx.ltR e
  have h3 := (World.ownsRow.lt ho g hg).1
  omega
theorem kw_spot {w : World} {R : Option Nat} {base n c : Nat} {a : Option Addr} {xs : List Nat} (h : KW w R base (.slice a n c) xs) (h0 : 0 < xs.length) : ∃ b off, a = some ⟨b, off, none⟩ := by
  obtain ⟨a1, c1, e, hw⟩ := h.1.lie
  injection e with e1 e2 e3
  subst e1
  obtain ⟨b, off, ea, _⟩ := hw.cells h0
  exact ⟨b, off, ea⟩
theorem kw_at {w : World} {R : Option Nat} {base n c b off : Nat} {xs : List Nat} (h : KW w R base (.slice (some ⟨b, off, none⟩) n c) xs) {i : Nat} (hi : i < xs.length) : w.cell? ⟨b, off + i, none⟩ = some (.int .u64 (xs.getD i 0 : Nat)) := by
  obtain ⟨a1, c1, e, hw⟩ := h.1.lie
  injection e with e1 _ _
  subst e1
  obtain ⟨b', off', ea, _, hcs⟩ := hw.cells (by omega)
  injection ea with ea
  injection ea with f1 f2
  subst f1 f2
  exact hcs i hi
theorem kw_0 {w : World} {R : Option Nat} {base n c b off x : Nat} {xs : List Nat} (h : KW w R base (.slice (some ⟨b, off, none⟩) n c) (x :: xs)) : w.cell? ⟨b, off, none⟩ = some (.int .u64 (x : Nat)) := kw_at h (i := 0) (by simp)
theorem kw_1 {w : World} {R : Option Nat} {base n c b off x y : Nat} {xs : List Nat} (h : KW w R base (.slice (some ⟨b, off, none⟩) n c) (x :: y :: xs)) : w.cell? ⟨b, off + 1, none⟩ = some (.int .u64 (y : Nat)) := kw_at h (i := 1) (by simp)
section
variable {w0 w : World} {T off m k : Nat} {R : Option Nat} {U : List Nat} {tg : Nat → Nat} {L : Nat → List Nat} {la : Option Addr}
theorem lw_link1 (h : LW w0 w T R U tg L) (hU : Grid U) (ho : off ∈ U) (hn : ∀ d, d < 8 → off ∉ L d) :
    Calls Try.prog 17 #[.pointer (some ⟨T, 0, none⟩), .int .i64 1, .int .u64 off] w fun e w' => e = .returned (.tuple #[]) ∧ ∃ R', LW w0 w' T R' U tg (setL L 1 (off :: L 1)) ∧ Keep w R w' R' := lw_link h hU (c := 1) (by decide) ho hn
theorem lw_unlink1 (h : LW w0 w T R U tg L) (hU : Grid U) (ho : off ∈ L 1) :
    Calls Try.prog 19 #[.pointer (some ⟨T, 0, none⟩), .int .i64 1, .int .u64 off] w fun e w' => e = .returned (.tuple #[]) ∧ ∃ R', LW w0 w' T R' U tg (setL L 1 ((L 1).filter fun y => decide (y ≠ off))) ∧ Keep w R w' R' := lw_unlink h hU (c := 1) (by decide) ho
theorem lw_list1 (h : LW w0 w T R U tg L) (hU : Grid U) :
    Calls Try.prog 15 #[.pointer (some ⟨T, 0, none⟩), .int .i64 1] w fun e w' => ∃ v, e = .returned v ∧ OwnW w' w.heap.size v (L 1) ∧ w.grownBy w' none := lw_list h hU (c := 1) (by decide)
theorem lw_check1 (h : LW w0 w T R U tg L) (hU : Grid U) (hw : WordsAt w la (L 1)) (hm : (L 1).length = m) :
    Calls Try.prog 10 #[.pointer (some ⟨T, 0, none⟩), .int .i64 1, .slice la m k] w fun e w' => e = .returned (.bool true) ∧ w.grownBy w' none := lw_check h hU (c := 1) (by decide) hw hm
theorem lw_nil1 (h : LW w0 w T R U tg L) (hU : Grid U) (hn : L 1 ≠ []) :
    Calls Try.prog 10 #[.pointer (some ⟨T, 0, none⟩), .int .i64 1, .slice none 0 0] w fun e w' => e = .returned (.bool false) ∧ w.grownBy w' none := lw_check_nil h hU (c := 1) (by decide) hn
theorem lw_head1 (h : LW w0 w T R U tg L) {x : Nat} (hx : (L 1).headD 0 = x) :
    Calls Try.prog 18 #[.pointer (some ⟨T, 0, none⟩), .int .i64 1] w fun e w' => e = .returned (.int .u64 (x : Nat)) ∧ w.grownBy w' none := by
  rw [← hx]
  exact lw_head h (c := 1) (by decide)
end
theorem words_one9 (w : World) (x : Nat) : WordsAt (w.alloc (.cells #[.int .u64 (x : Nat)] 30)) (some ⟨w.heap.size, 0, none⟩) [x] := ⟨fun _ => ⟨_, 0, rfl, by rw [World.size_alloc]; omega, fun i hi => by
  have h1 := heap_alloc_new' w (.cells #[.int .u64 (x : Nat)] 30)
  simp only [List.length_cons, List.length_nil] at hi
  obtain rfl : i = 0 := by omega
  unfold World.cell?
  simp only [Nat.zero_add]
  rw [h1]
  rfl⟩⟩
theorem last_one (x0 x1 : Nat) (h : x0 ≠ x1) : setL (setL (setL (fun _ => []) 1 [x0]) 1 [x1, x0]) 1 ((setL (setL (fun _ => []) 1 [x0]) 1 [x1, x0] 1).filter fun y => decide (y ≠ x0)) 1 = [x1] := by
  rw [setL_same, setL_same]
  simp [h.symm]
theorem hn1 (x0 x1 : Nat) (h : x0 ≠ x1) (d : Nat) (_ : d < 8) : x1 ∉ setL (fun _ => []) 1 [x0] d := by
  unfold setL
  split
  · simp; exact fun e => h e.symm
  · simp
set_option maxHeartbeats 8000000 in
theorem awake9 (w : World) : Calls Try.prog 8 #[] w fun e w' => e = .returned (.bool true) ∧ w.grownBy w' none := by
  have hla := laid9_from (w := w) (pieces_two w) (Nat.le_refl 2) (by decide) (World.grownBy_alloc _ _ _)
  go_enter Try.func8, Try.ntmps8
  go_wp2_with (first | (go_at_call 12; go_must ((with_reducible refine hla.mono ?_); rintro e w2 ⟨T, R, U, tg, fa, fc, rfl, G, h6, hg2⟩; obtain ⟨x0, x1, x2, rfl⟩ := three_of (h6 (by decide)); simp only [List.length_cons, List.length_nil, Nat.zero_add, Nat.reduceAdd] at G; have hnd := G.nodup; obtain ⟨bb, off, rfl⟩ := kw_spot G.row (by simp); have hU := G.grid; have X2 := G.lists; have K2 := G.row; have u0 := kw_0 K2; have u1 := kw_1 K2; have n01 : x0 ≠ x1 := (by intro e; simp [e] at hnd); clear G h6 hla)) | (go_at_call 17; ((with_reducible refine (lw_link1 X2 hU (off := x0) (by simp) (fun d _ => by simp)).mono ?_); rintro e w3 ⟨rfl, R3, X3, P3⟩; have K3 := P3.row K2; have v0 := kw_0 K3; have v1 := kw_1 K3)) | (go_at_call 17; ((with_reducible refine (lw_link1 X3 hU (off := x1) (by simp) (hn1 x0 x1 n01)).mono ?_); rintro e w4 ⟨rfl, R4, X4, P4⟩; change LW _ _ _ _ _ _ (setL (setL (fun _ => []) 1 [x0]) 1 [x1, x0]) at X4; have K4 := P4.row K3; have s0 := kw_0 K4; have s1 := kw_1 K4)) | (go_at_call 15; ((with_reducible refine (lw_list1 X4 hU).mono ?_); rintro e w5 ⟨v5, rfl, ho5, hg5⟩; have X5 := X4.later hg5; have K5 := K4.later hg5; have a0 := kw_0 K5; have a1 := kw_1 K5; have KA : KW w5 R4 w4.heap.size v5 [x1, x0] := X4.new ho5 (Nat.le_refl _); obtain ⟨la, lc, hv5⟩ := KA.1.slice; subst hv5; simp only [List.length_cons, List.length_nil, Nat.zero_add, Nat.reduceAdd] at KA; obtain ⟨b5, o5, rfl⟩ := kw_spot KA (by simp))) | (go_at_call 19; ((with_reducible refine (lw_unlink1 X5 hU (off := x0) (by simp [setL])).mono ?_); rintro e w6 ⟨rfl, R6, X6, P6⟩; have K6 := P6.row K5; have b0 := kw_0 K6; have b1 := kw_1 K6; have KB := P6.row KA; have d0 := kw_0 KB)))
  have hlast : setL (setL (setL (fun _ => []) 1 [x0]) 1 [x1, x0]) 1 ((setL (setL (fun _ => []) 1 [x0]) 1 [x1, x0] 1).filter fun y => decide (y ≠ x0)) 1 = [x1] := last_one x0 x1 n01
  have hcell : ∀ {wr : World}, w6.grownBy wr none → wr.cell? ⟨bb, off, none⟩ = some (.int .u64 (x0 : Nat)) ∧ wr.cell? ⟨bb, off + 1, none⟩ = some (.int .u64 (x1 : Nat)) ∧ wr.cell? ⟨b5, o5, none⟩ = some (.int .u64 (x1 : Nat)) := fun {wr} hg => ⟨kw_0 (K6.later hg), kw_1 (K6.later hg), kw_0 (KB.later hg)⟩
  have HA : w6.grownBy (w6.alloc (.cells #[.int .u64 (x1 : Nat)] 30)).drew none := grown_drew (World.grownBy_alloc _ _ _)
  obtain ⟨n0, n1, n2⟩ := hcell (World.grownBy_alloc w6 (.cells #[.int .u64 (x1 : Nat)] 30) none)
  obtain ⟨m0, m1, m2⟩ := hcell (grown_refl w6 none)
  have hw1 := World.new_ne w6 ⟨bb, off, none⟩ m0
  have hw2 := World.new_ne w6 ⟨b5, o5, none⟩ m2
  have hwd := (words_one9 w6 x1).later (grown_drew (grown_refl _ _))
  have hck := lw_check1 (k := 1) (m := 1) (X6.later HA) hU (la := some ⟨w6.heap.size, 0, none⟩) (by rw [hlast]; exact hwd) (by rw [hlast]; rfl)
  have hhd := fun (w' : World) (hg : w6.grownBy w' none) => lw_head1 (X6.later hg) (x := x1) (by rw [hlast]; rfl)
  have hni := fun (w' : World) (hg : w6.grownBy w' none) => lw_nil1 (X6.later hg) hU (by rw [hlast]; simp)
  have HX := Lib.hid X6
  have HS := Lib.hid X6.since
  clear X2 X3 X4 X5 X6 K2 K3 K4 K5 KA K6 KB P3 P4 P6 hwd hlast hnd u0 u1 v0 v1 s0 s1 a0 a1 b0 b1 d0
  go_region_held3 (fun w' => w'.cell? ⟨bb, off, none⟩ = some (.int .u64 (x0 : Nat)) ∧ w'.cell? ⟨bb, off + 1, none⟩ = some (.int .u64 (x1 : Nat)) ∧ w'.cell? ⟨b5, o5, none⟩ = some (.int .u64 (x1 : Nat))) (go_keep)
    (first | (go_at_call 10; ((with_reducible refine hck.mono ?_); rintro e w8 ⟨rfl, hg8⟩; have HG := grown_trans HA hg8; obtain ⟨p0, p1, p2⟩ := hcell HG)) | (go_at_call 18; ((with_reducible refine (hhd _ HG).mono ?_); rintro e w9 ⟨rfl, hg9⟩; replace HG := grown_trans HG hg9; obtain ⟨p0, p1, p2⟩ := hcell HG)) | (go_at_call 10; ((with_reducible refine (hni _ HG).mono ?_); rintro e w10 ⟨rfl, hg10⟩; replace HG := grown_trans HG hg10; obtain ⟨p0, p1, p2⟩ := hcell HG)))
  go_wp2
  go_ret
  exact ⟨by simp, grown_trans HS.out HG⟩
end Go.Proofs.Ytkpopaadkfgjaaa
