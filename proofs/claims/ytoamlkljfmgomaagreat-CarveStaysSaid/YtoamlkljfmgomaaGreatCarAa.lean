/-
  What the statements of layer 10 ask first (awake).
  No condition.
-/
import Derived.Test.YtoamlkljfmgomaaGreatCarZ
import Derived.Laws.StructEq
namespace Go.Proofs.YtoamlkljfmgomaaGreat
open Go.RowKit
set_option linter.unusedVariables false
set_option linter.unusedSimpArgs false
set_option maxRecDepth 100000

theorem asks_one (w : World) : PiecesAt (w.alloc (.cells #[.int .u8 1, .int .u8 0, .int .u16 8] 62)) (some ⟨w.heap.size, 0, none⟩) 1 (fun _ => 1) (fun _ => 0) (fun _ => 8) :=
  ⟨fun _ => ⟨by decide, by decide, by decide⟩, fun _ => ⟨_, 0, rfl, by rw [World.size_alloc]; omega, fun i hi => by
    obtain rfl : i = 0 := by omega
    obtain ⟨h1, h2, h3⟩ := tag_cells (heap_alloc_new' w (.cells #[.int .u8 1, .int .u8 0, .int .u16 8] 62))
    exact ⟨h1, h2, h3⟩⟩⟩
theorem tk_one : (tkS (fun _ => 1) (fun _ => 0) (fun _ => 8) (min 1 20)).1 = [⟨3776, 48, true, 1, 8⟩, freeB 3824 976] := by decide
theorem fit_one : fitM [⟨3776, 48, true, 1, 8⟩, freeB 3824 976] 8 16 = some 1 := by decide
section
variable {w0 w : World} {T : Nat} {R : Option Nat} {ws : List Nat} {E : Nat} {bs : List Blk} {L : Nat → List Nat}
theorem hw_load_len (h : HW w0 w T R ws E bs L) {b : Blk} (hb : b ∈ bs) (hu : b.u = true) :
    Calls Tryz.prog 20 #[.pointer (some ⟨T, 0, none⟩), .int .u64 (b.off + 8 : Nat)] w fun e w' => e = .returned (.int .u64 (b.n : Nat)) ∧ w.grownBy w' none := by
  obtain ⟨h0, M, B, D, l, h1, h2⟩ := h
  have hi := h2.told.is b hb
  have h3 := hi.hi
  have h4 := h2.low
  have h5 := hi.len
  rw [if_pos hu] at h5
  have := txload_any h1.tx (b.off + 8) (by omega)
  rw [h5.1] at this
  exact this
end
set_option maxHeartbeats 4000000 in
theorem awake10 (w : World) : Calls Tryz.prog 9 #[] w fun e w' => e = .returned (.bool true) ∧ w.grownBy w' none := by
  have htk : ∀ w : World, Calls Tryz.prog 10 #[.slice (some ⟨w.heap.size, 0, none⟩) 1 1] (w.alloc (.cells #[.int .u8 1, .int .u8 0, .int .u16 8] 62)) _ := fun w => taken10_any (c := 1) (asks_one w) (by decide)
  rw [tk_one] at htk
  obtain ⟨L, hL⟩ : ∃ L, (tkS (fun _ => 1) (fun _ => 0) (fun _ => 8) (min 1 20)).2 = L := ⟨_, rfl⟩
  rw [hL] at htk
  clear hL
  have hg0 := World.grownBy_alloc w (.cells #[.int .u8 1, .int .u8 0, .int .u16 8] 62) none
  go_enter Tryz.func9, Tryz.ntmps9
  have hfit : ∀ (V W0 : World) (T : Nat) (R : Option Nat) (h : HW W0 V T R (fmt48 4800) 4800 [⟨3776, 48, true, 1, 8⟩, freeB 3824 976] L), Calls Tryz.prog 11 #[.pointer (some ⟨T, 0, none⟩), .int .u64 8, .int .u64 16] V fun e w' => e = .returned (.tuple #[.agg #[.int .u64 3824, .int .u64 0, .int .u64 48], .int .i64 0]) ∧ V.grownBy w' none := fun V W0 T R h => hw_fit_ok h (n := 8) (a := 16) (i := 1) (.inl rfl) (by decide) fit_one
  have hload : ∀ (V W0 : World) (T : Nat) (R : Option Nat) (h : HW W0 V T R (fmt48 4800) 4800 [⟨3776, 48, true, 1, 8⟩, freeB 3824 976] L), Calls Tryz.prog 20 #[.pointer (some ⟨T, 0, none⟩), .int .u64 3784] V fun e w' => e = .returned (.int .u64 8) ∧ V.grownBy w' none := fun V W0 T R h => hw_load_len h (b := ⟨3776, 48, true, 1, 8⟩) (by simp) rfl
  have hsound : ∀ (V W0 : World) (T base : Nat) (R : Option Nat) (v : Value) (h : HW W0 V T R (fmt48 4800) 4800 [⟨3776, 48, true, 1, 8⟩, freeB 3824 976] L) (hv : HvK V R base v 4800 [⟨3776, 48, true, 1, 8⟩, freeB 3824 976] L), Calls Tryz.prog 13 #[.pointer (some ⟨T, 0, none⟩), v] V _ := fun V W0 T base R v h hv => sound10_any h hv.is
  go_wp2_with (first
    | (go_at_call 10; ((with_reducible refine (htk _).mono ?_); rintro e w2 ⟨T, R, v, rfl, H2, V2⟩; obtain ⟨la, n, c, va, ln, vc, hv, hn⟩ := V2.lie; replace hn : 2 = n := hn; subst hn; subst hv; have ga := World.grownBy_alloc w2 (.cells #[.int .u64 4800, .slice la 2 c, .slice (va 0) (ln 0) (vc 0), .slice (va 1) (ln 1) (vc 1), .slice (va 2) (ln 2) (vc 2), .slice (va 3) (ln 3) (vc 3), .slice (va 4) (ln 4) (vc 4), .slice (va 5) (ln 5) (vc 5), .slice (va 6) (ln 6) (vc 6), .slice (va 7) (ln 7) (vc 7)] 30) none; have B2 := heap_alloc_new' w2 (.cells #[.int .u64 4800, .slice la 2 c, .slice (va 0) (ln 0) (vc 0), .slice (va 1) (ln 1) (vc 1), .slice (va 2) (ln 2) (vc 2), .slice (va 3) (ln 3) (vc 3), .slice (va 4) (ln 4) (vc 4), .slice (va 5) (ln 5) (vc 5), .slice (va 6) (ln 6) (vc 6), .slice (va 7) (ln 7) (vc 7)] 30); have HB2 := Lib.hid B2; clear B2; have hft := hfit _ _ _ _ (H2.later ga); simp only [heapV, show ((4800 : Nat) : Int) = 4800 from rfl]))
    | (go_at_call 11; ((with_reducible refine hft.mono ?_); rintro e w3 ⟨rfl, hg3⟩; have gb := World.grownBy_alloc w3 (.cells #[.int .u64 3824, .int .u64 0, .int .u64 48] 34) none; have G3 := grown_trans ga (grown_trans hg3 gb); have B3 := ((grown_trans hg3 gb).block _ (lt_of_block HB2.out) (by simp)).trans HB2.out; obtain ⟨⟨x0, x1, x2, x3, x4, x5, x6, x7, x8, x9⟩, _⟩ := ten_cells B3; have P3 := heap_alloc_new' w3 (.cells #[.int .u64 3824, .int .u64 0, .int .u64 48] 34); obtain ⟨p0, p1, p2⟩ := tag_cells P3; have hso := hsound _ _ _ _ _ _ (H2.later G3) (V2.later G3); simp only [heapV, show ((4800 : Nat) : Int) = 4800 from rfl] at hso; have HP3 := Lib.hid P3; clear P3 B3))
    | (go_at_call 13; ((with_reducible refine hso.mono ?_); rintro e w4 ⟨rfl, hg4⟩; obtain ⟨p0, p1, p2⟩ := tag_cells ((hg4.block _ (lt_of_block HP3.out) (by simp)).trans HP3.out); have hld := hload _ _ _ _ (H2.later (grown_trans G3 hg4))))
    | (go_at_call 20; ((with_reducible refine hld.mono ?_); rintro e w5 ⟨rfl, hg5⟩)))
  go_ret
  exact ⟨rfl, grown_trans hg0 (grown_trans H2.since (grown_trans G3 (grown_trans hg4 hg5)))⟩
end Go.Proofs.YtoamlkljfmgomaaGreat
