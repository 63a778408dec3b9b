/-
  Tags are told there and back; two that may be have one word just if they are the same. The statement TagBack, for every two tags, and every number; no condition.
-/
import Derived.Test.YtgebkdngglljeaaTagF
import Derived.Test.YtgebkdngglljeaaTagO
namespace Go.Proofs.Ytgebkdngglljeaa.tagBack
open Go.ChangeShapes Go.WideShapes Go.ChangeAt Go.RowKit
set_option linter.unusedVariables false
set_option linter.unusedSimpArgs false

/-- the two arguments' boxes -/
theorem two_tags {w w' : World} {a b c x y z : Value} {t : TypeId} (hg : ((w.alloc (.cells #[a, b, c] t)).alloc (.cells #[x, y, z] t)).grownBy w' none) :
    w'.cell? ⟨w.heap.size, 0, none⟩ = some a ∧ w'.cell? ⟨w.heap.size, 1, none⟩ = some b ∧ w'.cell? ⟨w.heap.size, 2, none⟩ = some c ∧ w'.cell? ⟨w.heap.size + 1, 0, none⟩ = some x ∧ w'.cell? ⟨w.heap.size + 1, 1, none⟩ = some y ∧ w'.cell? ⟨w.heap.size + 1, 2, none⟩ = some z := by
  obtain ⟨h1, h2⟩ := tag_two hg
  obtain ⟨a1, a2, a3⟩ := tag_cells h1
  obtain ⟨b1, b2, b3⟩ := tag_cells h2
  exact ⟨a1, a2, a3, b1, b2, b3⟩
theorem unpack_pack {s : Nat} {u : Bool} {o : Int} (h : mayP s u o) : packN s u o < 18446744073709551616 ∧ mayW (packN s u o) ∧ usz (packN s u o) = s ∧ uus (packN s u o) = u ∧ (uow (packN s u o) : Int) = o := by
  have hm := h
  unfold mayP at hm
  have e : packN s u o = o.toNat * 4294967296 + s + (if u then 1 else 0) := if_pos h
  obtain ⟨m, rfl⟩ := Int.eq_ofNat_of_zero_le hm.2.2.2.1
  rw [Int.toNat_natCast] at e
  have hs : usz (packN s u m) = s := by rw [e]; unfold usz; cases u <;> simp only [if_true, if_false, Bool.false_eq_true] <;> omega
  have hu : uus (packN s u m) = u := by
    rw [e]
    unfold uus
    cases u
    · rw [decide_eq_false]; simp only [if_false, Bool.false_eq_true]; omega
    · rw [decide_eq_true]; simp only [if_true]; omega
  have ho : uow (packN s u m) = m := by rw [e]; unfold uow; cases u <;> simp only [if_true, if_false, Bool.false_eq_true] <;> omega
  refine ⟨?_, ?_, hs, hu, by rw [ho]⟩
  · rw [e]; cases u <;> simp only [if_true, if_false, Bool.false_eq_true] <;> omega
  · unfold mayW
    rw [hs, hu, ho]
    exact h
theorem pack_inj {s t : Nat} {u v : Bool} {o q : Int} (h : mayP s u o) (h2 : mayP t v q) (e : packN s u o = packN t v q) : s = t ∧ u = v ∧ o = q := by
  obtain ⟨_, _, a1, a2, a3⟩ := unpack_pack h
  obtain ⟨_, _, b1, b2, b3⟩ := unpack_pack h2
  rw [e] at a1 a2 a3
  exact ⟨a1.symm.trans b1, a2.symm.trans b2, a3.symm.trans b3⟩
set_option maxRecDepth 100000 in
set_option maxHeartbeats 8000000 in
theorem c_x_nog (s : Nat) (u : Bool) (o : Int) (t : Nat) (v : Bool) (q : Int) (x : Nat) (s2 : Nat) (u2 : Bool) (o2 : Nat) (p r : Nat)
    (hun : ∀ w, Calls Try.prog 9 #[.int .u64 x] w fun e w' => e = .returned (.tuple #[.agg #[.int .u64 s2, .bool u2, .int .i64 o2], .bool true]) ∧ w.grownBy w' none)
    (hpx : ∀ w, Calls Try.prog 14 #[.agg #[.int .u64 s2, .bool u2, .int .i64 o2]] w fun e w' => e = .returned (.int .u64 x) ∧ w.grownBy w' none)
    (hmg : ∀ w, Calls Try.prog 13 #[.agg #[.int .u64 s, .bool u, .int .i64 o]] w fun e w' => e = .returned (.bool false) ∧ w.grownBy w' none)
    (w : World) : Calls Try.prog 4 #[.agg #[.int .u64 s, .bool u, .int .i64 o], .agg #[.int .u64 t, .bool v, .int .i64 q], .int .u64 x] w fun e w' => e = .returned (.bool true) ∧ w.grownBy w' none := by
  have hg0 : w.grownBy ((w.alloc (.cells #[.int .u64 s, .bool u, .int .i64 o] 24)).alloc (.cells #[.int .u64 t, .bool v, .int .i64 q] 24)) none := grown_trans (World.grownBy_alloc _ _ _) (World.grownBy_alloc _ _ _)
  go_enter Try.func4, Try.ntmps4
  go_wp2_with (first | (go_at_call 8; ((with_reducible refine (awake5 _).mono ?_); rintro e w1 ⟨rfl, hg1⟩)) | (go_at_call 9; ((with_reducible refine (hun _).mono ?_); rintro e w2 ⟨rfl, hg2⟩; have HA := Lib.hid (grown_trans hg1 (grown_trans hg2 (World.grownBy_alloc w2 (.cells #[.int .u64 s2, .bool u2, .int .i64 o2] 26) none))); obtain ⟨x0, x1, x2, y0, y1, y2⟩ := two_tags HA.out)) | (go_at_call 14; ((with_reducible refine (hpx _).mono ?_); rintro e w3 ⟨rfl, hg3⟩; have HB := Lib.hid (grown_trans HA.out hg3); obtain ⟨x0, x1, x2, y0, y1, y2⟩ := two_tags HB.out)) | (go_at_call 13; ((with_reducible refine (hmg _).mono ?_); rintro e w4 ⟨rfl, hg4⟩; have HC := Lib.hid (grown_trans HB.out hg4); obtain ⟨x0, x1, x2, y0, y1, y2⟩ := two_tags HC.out)))
  go_ret
  exact ⟨ret_bool' rfl, grown_trans hg0 HC.out⟩
set_option maxRecDepth 100000 in
set_option maxHeartbeats 8000000 in
theorem c_x_noh (s : Nat) (u : Bool) (o : Int) (t : Nat) (v : Bool) (q : Int) (x : Nat) (s2 : Nat) (u2 : Bool) (o2 : Nat) (p r : Nat)
    (hun : ∀ w, Calls Try.prog 9 #[.int .u64 x] w fun e w' => e = .returned (.tuple #[.agg #[.int .u64 s2, .bool u2, .int .i64 o2], .bool true]) ∧ w.grownBy w' none)
    (hpx : ∀ w, Calls Try.prog 14 #[.agg #[.int .u64 s2, .bool u2, .int .i64 o2]] w fun e w' => e = .returned (.int .u64 x) ∧ w.grownBy w' none)
    (hmg : ∀ w, Calls Try.prog 13 #[.agg #[.int .u64 s, .bool u, .int .i64 o]] w fun e w' => e = .returned (.bool true) ∧ w.grownBy w' none)
    (hmh : ∀ w, Calls Try.prog 13 #[.agg #[.int .u64 t, .bool v, .int .i64 q]] w fun e w' => e = .returned (.bool false) ∧ w.grownBy w' none)
    (w : World) : Calls Try.prog 4 #[.agg #[.int .u64 s, .bool u, .int .i64 o], .agg #[.int .u64 t, .bool v, .int .i64 q], .int .u64 x] w fun e w' => e = .returned (.bool true) ∧ w.grownBy w' none := by
  have hg0 : w.grownBy ((w.alloc (.cells #[.int .u64 s, .bool u, .int .i64 o] 24)).alloc (.cells #[.int .u64 t, .bool v, .int .i64 q] 24)) none := grown_trans (World.grownBy_alloc _ _ _) (World.grownBy_alloc _ _ _)
  go_enter Try.func4, Try.ntmps4
  go_wp2_with (first | (go_at_call 8; ((with_reducible refine (awake5 _).mono ?_); rintro e w1 ⟨rfl, hg1⟩)) | (go_at_call 9; ((with_reducible refine (hun _).mono ?_); rintro e w2 ⟨rfl, hg2⟩; have HA := Lib.hid (grown_trans hg1 (grown_trans hg2 (World.grownBy_alloc w2 (.cells #[.int .u64 s2, .bool u2, .int .i64 o2] 26) none))); obtain ⟨x0, x1, x2, y0, y1, y2⟩ := two_tags HA.out)) | (go_at_call 14; ((with_reducible refine (hpx _).mono ?_); rintro e w3 ⟨rfl, hg3⟩; have HB := Lib.hid (grown_trans HA.out hg3); obtain ⟨x0, x1, x2, y0, y1, y2⟩ := two_tags HB.out)) | (go_at_call 13; ((with_reducible refine (hmg _).mono ?_); rintro e w4 ⟨rfl, hg4⟩; have HC := Lib.hid (grown_trans HB.out hg4); obtain ⟨x0, x1, x2, y0, y1, y2⟩ := two_tags HC.out)) | (go_at_call 13; ((with_reducible refine (hmh _).mono ?_); rintro e w5 ⟨rfl, hg5⟩; have HD := Lib.hid (grown_trans HC.out hg5); obtain ⟨x0, x1, x2, y0, y1, y2⟩ := two_tags HD.out)))
  go_ret
  exact ⟨ret_bool' rfl, grown_trans hg0 HD.out⟩
set_option maxRecDepth 100000 in
set_option maxHeartbeats 8000000 in
theorem c_x_both (s : Nat) (u : Bool) (o : Int) (t : Nat) (v : Bool) (q : Int) (x : Nat) (s2 : Nat) (u2 : Bool) (o2 : Nat) (p r : Nat)
    (hun : ∀ w, Calls Try.prog 9 #[.int .u64 x] w fun e w' => e = .returned (.tuple #[.agg #[.int .u64 s2, .bool u2, .int .i64 o2], .bool true]) ∧ w.grownBy w' none)
    (hpx : ∀ w, Calls Try.prog 14 #[.agg #[.int .u64 s2, .bool u2, .int .i64 o2]] w fun e w' => e = .returned (.int .u64 x) ∧ w.grownBy w' none)
    (hmg : ∀ w, Calls Try.prog 13 #[.agg #[.int .u64 s, .bool u, .int .i64 o]] w fun e w' => e = .returned (.bool true) ∧ w.grownBy w' none)
    (hmh : ∀ w, Calls Try.prog 13 #[.agg #[.int .u64 t, .bool v, .int .i64 q]] w fun e w' => e = .returned (.bool true) ∧ w.grownBy w' none)
    (hpg : ∀ w, Calls Try.prog 14 #[.agg #[.int .u64 s, .bool u, .int .i64 o]] w fun e w' => e = .returned (.int .u64 p) ∧ w.grownBy w' none)
    (hph : ∀ w, Calls Try.prog 14 #[.agg #[.int .u64 t, .bool v, .int .i64 q]] w fun e w' => e = .returned (.int .u64 r) ∧ w.grownBy w' none)
    (hup : ∀ w, Calls Try.prog 9 #[.int .u64 p] w fun e w' => e = .returned (.tuple #[.agg #[.int .u64 s, .bool u, .int .i64 o], .bool true]) ∧ w.grownBy w' none)
    (hcase : (p = r ∧ s = t ∧ u = v ∧ o = q) ∨ (((p : Int) == (r : Int)) = false ∧ (((s : Int) == (t : Int)) = false ∨ (s = t ∧ ((u == v) = false ∨ (u = v ∧ (o == q) = false))))))
    (w : World) : Calls Try.prog 4 #[.agg #[.int .u64 s, .bool u, .int .i64 o], .agg #[.int .u64 t, .bool v, .int .i64 q], .int .u64 x] w fun e w' => e = .returned (.bool true) ∧ w.grownBy w' none := by
  have hg0 : w.grownBy ((w.alloc (.cells #[.int .u64 s, .bool u, .int .i64 o] 24)).alloc (.cells #[.int .u64 t, .bool v, .int .i64 q] 24)) none := grown_trans (World.grownBy_alloc _ _ _) (World.grownBy_alloc _ _ _)
  have hmd := fun w => made_any s u o w
  have hmd2 := fun w => made_any t v q w
  rcases hcase with ⟨rfl, rfl, rfl, rfl⟩ | ⟨hpr, hcase | ⟨rfl, hcase | ⟨rfl, hcase⟩⟩⟩
  · go_enter Try.func4, Try.ntmps4
    go_wp2_with (first | (go_at_call 8; ((with_reducible refine (awake5 _).mono ?_); rintro e w1 ⟨rfl, hg1⟩)) | (go_at_call 9; ((with_reducible refine (hun _).mono ?_); rintro e w2 ⟨rfl, hg2⟩; have HA := Lib.hid (grown_trans hg1 (grown_trans hg2 (World.grownBy_alloc w2 (.cells #[.int .u64 s2, .bool u2, .int .i64 o2] 26) none))); obtain ⟨x0, x1, x2, y0, y1, y2⟩ := two_tags HA.out)) | (go_at_call 14; ((with_reducible refine (hpx _).mono ?_); rintro e w3 ⟨rfl, hg3⟩; have HB := Lib.hid (grown_trans HA.out hg3); obtain ⟨x0, x1, x2, y0, y1, y2⟩ := two_tags HB.out)) | (go_at_call 13; ((with_reducible refine (hmg _).mono ?_); rintro e w4 ⟨rfl, hg4⟩; have HC := Lib.hid (grown_trans HB.out hg4); obtain ⟨x0, x1, x2, y0, y1, y2⟩ := two_tags HC.out)) | (go_at_call 13; ((with_reducible refine (hmh _).mono ?_); rintro e w5 ⟨rfl, hg5⟩; have HD := Lib.hid (grown_trans HC.out hg5); obtain ⟨x0, x1, x2, y0, y1, y2⟩ := two_tags HD.out)) | (go_at_call 12; ((with_reducible refine (hmd _).mono ?_); rintro e w6 ⟨rfl, hg6⟩)) | (go_at_call 14; ((with_reducible refine (hpg _).mono ?_); rintro e w7 ⟨rfl, hg7⟩)) | (go_at_call 9; ((with_reducible refine (hup _).mono ?_); rintro e w8 ⟨rfl, hg8⟩)))
    have hgc := World.grownBy_alloc w8 (.cells #[.int .u64 s, .bool u, .int .i64 o] 26) none
    have G8 := grown_trans HD.out (grown_trans hg6 (grown_trans hg7 (grown_trans hg8 hgc)))
    have hcell : ∀ {wr : World}, (w8.alloc (.cells #[.int .u64 s, .bool u, .int .i64 o] 26)).grownBy wr none →
        (wr.cell? ⟨w.heap.size, 0, none⟩ = some (.int .u64 s) ∧ wr.cell? ⟨w.heap.size, 1, none⟩ = some (.bool u) ∧ wr.cell? ⟨w.heap.size, 2, none⟩ = some (.int .i64 o)) ∧
        (wr.cell? ⟨w.heap.size + 1, 0, none⟩ = some (.int .u64 s) ∧ wr.cell? ⟨w.heap.size + 1, 1, none⟩ = some (.bool u) ∧ wr.cell? ⟨w.heap.size + 1, 2, none⟩ = some (.int .i64 o)) ∧
        (wr.cell? ⟨w8.heap.size, 0, none⟩ = some (.int .u64 s) ∧ wr.cell? ⟨w8.heap.size, 1, none⟩ = some (.bool u) ∧ wr.cell? ⟨w8.heap.size, 2, none⟩ = some (.int .i64 o)) := fun {wr} hg => by
      obtain ⟨c0, c1, c2, d0, d1, d2⟩ := two_tags (grown_trans G8 hg)
      exact ⟨⟨c0, c1, c2⟩, ⟨d0, d1, d2⟩, tag_cells (tag_first hg)⟩
    have HG : (w8.alloc (.cells #[.int .u64 s, .bool u, .int .i64 o] 26)).grownBy (w8.alloc (.cells #[.int .u64 s, .bool u, .int .i64 o] 26)).drew none := grown_drew (grown_refl _ _)
    clear x0 x1 x2 y0 y1 y2
    obtain ⟨⟨x0, x1, x2⟩, ⟨y0, y1, y2⟩, z0, z1, z2⟩ := hcell HG
    go_region_held3 (fun wr => (wr.cell? ⟨w.heap.size, 0, none⟩ = some (.int .u64 s) ∧ wr.cell? ⟨w.heap.size, 1, none⟩ = some (.bool u) ∧ wr.cell? ⟨w.heap.size, 2, none⟩ = some (.int .i64 o)) ∧
        (wr.cell? ⟨w.heap.size + 1, 0, none⟩ = some (.int .u64 s) ∧ wr.cell? ⟨w.heap.size + 1, 1, none⟩ = some (.bool u) ∧ wr.cell? ⟨w.heap.size + 1, 2, none⟩ = some (.int .i64 o)) ∧
        (wr.cell? ⟨w8.heap.size, 0, none⟩ = some (.int .u64 s) ∧ wr.cell? ⟨w8.heap.size, 1, none⟩ = some (.bool u) ∧ wr.cell? ⟨w8.heap.size, 2, none⟩ = some (.int .i64 o))) (exact hcell HG)
      (first | (go_at_call 12; ((with_reducible refine (hmd _).mono ?_); rintro e w9 ⟨rfl, hg9⟩; replace HG := grown_trans HG hg9)) | (go_at_call 12; ((with_reducible refine (hmd2 _).mono ?_); rintro e w9 ⟨rfl, hg9⟩; replace HG := grown_trans HG hg9)) | (go_at_call 14; ((with_reducible refine (hpg _).mono ?_); rintro e w9 ⟨rfl, hg9⟩; replace HG := grown_trans HG hg9)) | (go_at_call 14; ((with_reducible refine (hph _).mono ?_); rintro e w9 ⟨rfl, hg9⟩; replace HG := grown_trans HG hg9)))
    go_wp2
    go_ret
    exact ⟨ret_bool' (by simp), grown_trans hg0 (grown_trans G8 HG)⟩
  · go_enter Try.func4, Try.ntmps4
    go_wp2_with (first | (go_at_call 8; ((with_reducible refine (awake5 _).mono ?_); rintro e w1 ⟨rfl, hg1⟩)) | (go_at_call 9; ((with_reducible refine (hun _).mono ?_); rintro e w2 ⟨rfl, hg2⟩; have HA := Lib.hid (grown_trans hg1 (grown_trans hg2 (World.grownBy_alloc w2 (.cells #[.int .u64 s2, .bool u2, .int .i64 o2] 26) none))); obtain ⟨x0, x1, x2, y0, y1, y2⟩ := two_tags HA.out)) | (go_at_call 14; ((with_reducible refine (hpx _).mono ?_); rintro e w3 ⟨rfl, hg3⟩; have HB := Lib.hid (grown_trans HA.out hg3); obtain ⟨x0, x1, x2, y0, y1, y2⟩ := two_tags HB.out)) | (go_at_call 13; ((with_reducible refine (hmg _).mono ?_); rintro e w4 ⟨rfl, hg4⟩; have HC := Lib.hid (grown_trans HB.out hg4); obtain ⟨x0, x1, x2, y0, y1, y2⟩ := two_tags HC.out)) | (go_at_call 13; ((with_reducible refine (hmh _).mono ?_); rintro e w5 ⟨rfl, hg5⟩; have HD := Lib.hid (grown_trans HC.out hg5); obtain ⟨x0, x1, x2, y0, y1, y2⟩ := two_tags HD.out)) | (go_at_call 12; ((with_reducible refine (hmd _).mono ?_); rintro e w6 ⟨rfl, hg6⟩)) | (go_at_call 14; ((with_reducible refine (hpg _).mono ?_); rintro e w7 ⟨rfl, hg7⟩)) | (go_at_call 9; ((with_reducible refine (hup _).mono ?_); rintro e w8 ⟨rfl, hg8⟩)))
    have hgc := World.grownBy_alloc w8 (.cells #[.int .u64 s, .bool u, .int .i64 o] 26) none
    have G8 := grown_trans HD.out (grown_trans hg6 (grown_trans hg7 (grown_trans hg8 hgc)))
    have hcell : ∀ {wr : World}, (w8.alloc (.cells #[.int .u64 s, .bool u, .int .i64 o] 26)).grownBy wr none →
        (wr.cell? ⟨w.heap.size, 0, none⟩ = some (.int .u64 s) ∧ wr.cell? ⟨w.heap.size, 1, none⟩ = some (.bool u) ∧ wr.cell? ⟨w.heap.size, 2, none⟩ = some (.int .i64 o)) ∧
        (wr.cell? ⟨w.heap.size + 1, 0, none⟩ = some (.int .u64 t) ∧ wr.cell? ⟨w.heap.size + 1, 1, none⟩ = some (.bool v) ∧ wr.cell? ⟨w.heap.size + 1, 2, none⟩ = some (.int .i64 q)) ∧
        (wr.cell? ⟨w8.heap.size, 0, none⟩ = some (.int .u64 s) ∧ wr.cell? ⟨w8.heap.size, 1, none⟩ = some (.bool u) ∧ wr.cell? ⟨w8.heap.size, 2, none⟩ = some (.int .i64 o)) := fun {wr} hg => by
      obtain ⟨c0, c1, c2, d0, d1, d2⟩ := two_tags (grown_trans G8 hg)
      exact ⟨⟨c0, c1, c2⟩, ⟨d0, d1, d2⟩, tag_cells (tag_first hg)⟩
    have HG : (w8.alloc (.cells #[.int .u64 s, .bool u, .int .i64 o] 26)).grownBy (w8.alloc (.cells #[.int .u64 s, .bool u, .int .i64 o] 26)).drew none := grown_drew (grown_refl _ _)
    clear x0 x1 x2 y0 y1 y2
    obtain ⟨⟨x0, x1, x2⟩, ⟨y0, y1, y2⟩, z0, z1, z2⟩ := hcell HG
    go_region_held3 (fun wr => (wr.cell? ⟨w.heap.size, 0, none⟩ = some (.int .u64 s) ∧ wr.cell? ⟨w.heap.size, 1, none⟩ = some (.bool u) ∧ wr.cell? ⟨w.heap.size, 2, none⟩ = some (.int .i64 o)) ∧
        (wr.cell? ⟨w.heap.size + 1, 0, none⟩ = some (.int .u64 t) ∧ wr.cell? ⟨w.heap.size + 1, 1, none⟩ = some (.bool v) ∧ wr.cell? ⟨w.heap.size + 1, 2, none⟩ = some (.int .i64 q)) ∧
        (wr.cell? ⟨w8.heap.size, 0, none⟩ = some (.int .u64 s) ∧ wr.cell? ⟨w8.heap.size, 1, none⟩ = some (.bool u) ∧ wr.cell? ⟨w8.heap.size, 2, none⟩ = some (.int .i64 o))) (exact hcell HG)
      (first | (go_at_call 12; ((with_reducible refine (hmd _).mono ?_); rintro e w9 ⟨rfl, hg9⟩; replace HG := grown_trans HG hg9)) | (go_at_call 12; ((with_reducible refine (hmd2 _).mono ?_); rintro e w9 ⟨rfl, hg9⟩; replace HG := grown_trans HG hg9)) | (go_at_call 14; ((with_reducible refine (hpg _).mono ?_); rintro e w9 ⟨rfl, hg9⟩; replace HG := grown_trans HG hg9)) | (go_at_call 14; ((with_reducible refine (hph _).mono ?_); rintro e w9 ⟨rfl, hg9⟩; replace HG := grown_trans HG hg9)))
    go_wp2
    go_ret
    exact ⟨ret_bool' (by simp), grown_trans hg0 (grown_trans G8 HG)⟩
  · go_enter Try.func4, Try.ntmps4
    go_wp2_with (first | (go_at_call 8; ((with_reducible refine (awake5 _).mono ?_); rintro e w1 ⟨rfl, hg1⟩)) | (go_at_call 9; ((with_reducible refine (hun _).mono ?_); rintro e w2 ⟨rfl, hg2⟩; have HA := Lib.hid (grown_trans hg1 (grown_trans hg2 (World.grownBy_alloc w2 (.cells #[.int .u64 s2, .bool u2, .int .i64 o2] 26) none))); obtain ⟨x0, x1, x2, y0, y1, y2⟩ := two_tags HA.out)) | (go_at_call 14; ((with_reducible refine (hpx _).mono ?_); rintro e w3 ⟨rfl, hg3⟩; have HB := Lib.hid (grown_trans HA.out hg3); obtain ⟨x0, x1, x2, y0, y1, y2⟩ := two_tags HB.out)) | (go_at_call 13; ((with_reducible refine (hmg _).mono ?_); rintro e w4 ⟨rfl, hg4⟩; have HC := Lib.hid (grown_trans HB.out hg4); obtain ⟨x0, x1, x2, y0, y1, y2⟩ := two_tags HC.out)) | (go_at_call 13; ((with_reducible refine (hmh _).mono ?_); rintro e w5 ⟨rfl, hg5⟩; have HD := Lib.hid (grown_trans HC.out hg5); obtain ⟨x0, x1, x2, y0, y1, y2⟩ := two_tags HD.out)) | (go_at_call 12; ((with_reducible refine (hmd _).mono ?_); rintro e w6 ⟨rfl, hg6⟩)) | (go_at_call 14; ((with_reducible refine (hpg _).mono ?_); rintro e w7 ⟨rfl, hg7⟩)) | (go_at_call 9; ((with_reducible refine (hup _).mono ?_); rintro e w8 ⟨rfl, hg8⟩)))
    have hgc := World.grownBy_alloc w8 (.cells #[.int .u64 s, .bool u, .int .i64 o] 26) none
    have G8 := grown_trans HD.out (grown_trans hg6 (grown_trans hg7 (grown_trans hg8 hgc)))
    have hcell : ∀ {wr : World}, (w8.alloc (.cells #[.int .u64 s, .bool u, .int .i64 o] 26)).grownBy wr none →
        (wr.cell? ⟨w.heap.size, 0, none⟩ = some (.int .u64 s) ∧ wr.cell? ⟨w.heap.size, 1, none⟩ = some (.bool u) ∧ wr.cell? ⟨w.heap.size, 2, none⟩ = some (.int .i64 o)) ∧
        (wr.cell? ⟨w.heap.size + 1, 0, none⟩ = some (.int .u64 s) ∧ wr.cell? ⟨w.heap.size + 1, 1, none⟩ = some (.bool v) ∧ wr.cell? ⟨w.heap.size + 1, 2, none⟩ = some (.int .i64 q)) ∧
        (wr.cell? ⟨w8.heap.size, 0, none⟩ = some (.int .u64 s) ∧ wr.cell? ⟨w8.heap.size, 1, none⟩ = some (.bool u) ∧ wr.cell? ⟨w8.heap.size, 2, none⟩ = some (.int .i64 o)) := fun {wr} hg => by
      obtain ⟨c0, c1, c2, d0, d1, d2⟩ := two_tags (grown_trans G8 hg)
      exact ⟨⟨c0, c1, c2⟩, ⟨d0, d1, d2⟩, tag_cells (tag_first hg)⟩
    have HG : (w8.alloc (.cells #[.int .u64 s, .bool u, .int .i64 o] 26)).grownBy (w8.alloc (.cells #[.int .u64 s, .bool u, .int .i64 o] 26)).drew none := grown_drew (grown_refl _ _)
    clear x0 x1 x2 y0 y1 y2
    obtain ⟨⟨x0, x1, x2⟩, ⟨y0, y1, y2⟩, z0, z1, z2⟩ := hcell HG
    go_region_held3 (fun wr => (wr.cell? ⟨w.heap.size, 0, none⟩ = some (.int .u64 s) ∧ wr.cell? ⟨w.heap.size, 1, none⟩ = some (.bool u) ∧ wr.cell? ⟨w.heap.size, 2, none⟩ = some (.int .i64 o)) ∧
        (wr.cell? ⟨w.heap.size + 1, 0, none⟩ = some (.int .u64 s) ∧ wr.cell? ⟨w.heap.size + 1, 1, none⟩ = some (.bool v) ∧ wr.cell? ⟨w.heap.size + 1, 2, none⟩ = some (.int .i64 q)) ∧
        (wr.cell? ⟨w8.heap.size, 0, none⟩ = some (.int .u64 s) ∧ wr.cell? ⟨w8.heap.size, 1, none⟩ = some (.bool u) ∧ wr.cell? ⟨w8.heap.size, 2, none⟩ = some (.int .i64 o))) (exact hcell HG)
      (first | (go_at_call 12; ((with_reducible refine (hmd _).mono ?_); rintro e w9 ⟨rfl, hg9⟩; replace HG := grown_trans HG hg9)) | (go_at_call 12; ((with_reducible refine (hmd2 _).mono ?_); rintro e w9 ⟨rfl, hg9⟩; replace HG := grown_trans HG hg9)) | (go_at_call 14; ((with_reducible refine (hpg _).mono ?_); rintro e w9 ⟨rfl, hg9⟩; replace HG := grown_trans HG hg9)) | (go_at_call 14; ((with_reducible refine (hph _).mono ?_); rintro e w9 ⟨rfl, hg9⟩; replace HG := grown_trans HG hg9)))
    go_wp2
    go_ret
    exact ⟨ret_bool' (by simp), grown_trans hg0 (grown_trans G8 HG)⟩
  · go_enter Try.func4, Try.ntmps4
    go_wp2_with (first | (go_at_call 8; ((with_reducible refine (awake5 _).mono ?_); rintro e w1 ⟨rfl, hg1⟩)) | (go_at_call 9; ((with_reducible refine (hun _).mono ?_); rintro e w2 ⟨rfl, hg2⟩; have HA := Lib.hid (grown_trans hg1 (grown_trans hg2 (World.grownBy_alloc w2 (.cells #[.int .u64 s2, .bool u2, .int .i64 o2] 26) none))); obtain ⟨x0, x1, x2, y0, y1, y2⟩ := two_tags HA.out)) | (go_at_call 14; ((with_reducible refine (hpx _).mono ?_); rintro e w3 ⟨rfl, hg3⟩; have HB := Lib.hid (grown_trans HA.out hg3); obtain ⟨x0, x1, x2, y0, y1, y2⟩ := two_tags HB.out)) | (go_at_call 13; ((with_reducible refine (hmg _).mono ?_); rintro e w4 ⟨rfl, hg4⟩; have HC := Lib.hid (grown_trans HB.out hg4); obtain ⟨x0, x1, x2, y0, y1, y2⟩ := two_tags HC.out)) | (go_at_call 13; ((with_reducible refine (hmh _).mono ?_); rintro e w5 ⟨rfl, hg5⟩; have HD := Lib.hid (grown_trans HC.out hg5); obtain ⟨x0, x1, x2, y0, y1, y2⟩ := two_tags HD.out)) | (go_at_call 12; ((with_reducible refine (hmd _).mono ?_); rintro e w6 ⟨rfl, hg6⟩)) | (go_at_call 14; ((with_reducible refine (hpg _).mono ?_); rintro e w7 ⟨rfl, hg7⟩)) | (go_at_call 9; ((with_reducible refine (hup _).mono ?_); rintro e w8 ⟨rfl, hg8⟩)))
    have hgc := World.grownBy_alloc w8 (.cells #[.int .u64 s, .bool u, .int .i64 o] 26) none
    have G8 := grown_trans HD.out (grown_trans hg6 (grown_trans hg7 (grown_trans hg8 hgc)))
    have hcell : ∀ {wr : World}, (w8.alloc (.cells #[.int .u64 s, .bool u, .int .i64 o] 26)).grownBy wr none →
        (wr.cell? ⟨w.heap.size, 0, none⟩ = some (.int .u64 s) ∧ wr.cell? ⟨w.heap.size, 1, none⟩ = some (.bool u) ∧ wr.cell? ⟨w.heap.size, 2, none⟩ = some (.int .i64 o)) ∧
        (wr.cell? ⟨w.heap.size + 1, 0, none⟩ = some (.int .u64 s) ∧ wr.cell? ⟨w.heap.size + 1, 1, none⟩ = some (.bool u) ∧ wr.cell? ⟨w.heap.size + 1, 2, none⟩ = some (.int .i64 q)) ∧
        (wr.cell? ⟨w8.heap.size, 0, none⟩ = some (.int .u64 s) ∧ wr.cell? ⟨w8.heap.size, 1, none⟩ = some (.bool u) ∧ wr.cell? ⟨w8.heap.size, 2, none⟩ = some (.int .i64 o)) := fun {wr} hg => by
      obtain ⟨c0, c1, c2, d0, d1, d2⟩ := two_tags (grown_trans G8 hg)
      exact ⟨⟨c0, c1, c2⟩, ⟨d0, d1, d2⟩, tag_cells (tag_first hg)⟩
    have HG : (w8.alloc (.cells #[.int .u64 s, .bool u, .int .i64 o] 26)).grownBy (w8.alloc (.cells #[.int .u64 s, .bool u, .int .i64 o] 26)).drew none := grown_drew (grown_refl _ _)
    clear x0 x1 x2 y0 y1 y2
    obtain ⟨⟨x0, x1, x2⟩, ⟨y0, y1, y2⟩, z0, z1, z2⟩ := hcell HG
    go_region_held3 (fun wr => (wr.cell? ⟨w.heap.size, 0, none⟩ = some (.int .u64 s) ∧ wr.cell? ⟨w.heap.size, 1, none⟩ = some (.bool u) ∧ wr.cell? ⟨w.heap.size, 2, none⟩ = some (.int .i64 o)) ∧
        (wr.cell? ⟨w.heap.size + 1, 0, none⟩ = some (.int .u64 s) ∧ wr.cell? ⟨w.heap.size + 1, 1, none⟩ = some (.bool u) ∧ wr.cell? ⟨w.heap.size + 1, 2, none⟩ = some (.int .i64 q)) ∧
        (wr.cell? ⟨w8.heap.size, 0, none⟩ = some (.int .u64 s) ∧ wr.cell? ⟨w8.heap.size, 1, none⟩ = some (.bool u) ∧ wr.cell? ⟨w8.heap.size, 2, none⟩ = some (.int .i64 o))) (exact hcell HG)
      (first | (go_at_call 12; ((with_reducible refine (hmd _).mono ?_); rintro e w9 ⟨rfl, hg9⟩; replace HG := grown_trans HG hg9)) | (go_at_call 12; ((with_reducible refine (hmd2 _).mono ?_); rintro e w9 ⟨rfl, hg9⟩; replace HG := grown_trans HG hg9)) | (go_at_call 14; ((with_reducible refine (hpg _).mono ?_); rintro e w9 ⟨rfl, hg9⟩; replace HG := grown_trans HG hg9)) | (go_at_call 14; ((with_reducible refine (hph _).mono ?_); rintro e w9 ⟨rfl, hg9⟩; replace HG := grown_trans HG hg9)))
    go_wp2
    go_ret
    exact ⟨ret_bool' (by simp), grown_trans hg0 (grown_trans G8 HG)⟩
set_option maxRecDepth 100000 in
set_option maxHeartbeats 8000000 in
theorem c_n_nog (s : Nat) (u : Bool) (o : Int) (t : Nat) (v : Bool) (q : Int) (x : Nat) (s2 : Nat) (u2 : Bool) (o2 : Nat) (p r : Nat)
    (hun : ∀ w, Calls Try.prog 9 #[.int .u64 x] w fun e w' => e = .returned (.tuple #[.agg #[.int .u64 s2, .bool u2, .int .i64 o2], .bool false]) ∧ w.grownBy w' none)
    (hmg : ∀ w, Calls Try.prog 13 #[.agg #[.int .u64 s, .bool u, .int .i64 o]] w fun e w' => e = .returned (.bool false) ∧ w.grownBy w' none)
    (w : World) : Calls Try.prog 4 #[.agg #[.int .u64 s, .bool u, .int .i64 o], .agg #[.int .u64 t, .bool v, .int .i64 q], .int .u64 x] w fun e w' => e = .returned (.bool true) ∧ w.grownBy w' none := by
  have hg0 : w.grownBy ((w.alloc (.cells #[.int .u64 s, .bool u, .int .i64 o] 24)).alloc (.cells #[.int .u64 t, .bool v, .int .i64 q] 24)) none := grown_trans (World.grownBy_alloc _ _ _) (World.grownBy_alloc _ _ _)
  go_enter Try.func4, Try.ntmps4
  go_wp2_with (first | (go_at_call 8; ((with_reducible refine (awake5 _).mono ?_); rintro e w1 ⟨rfl, hg1⟩)) | (go_at_call 9; ((with_reducible refine (hun _).mono ?_); rintro e w2 ⟨rfl, hg2⟩; have HA := Lib.hid (grown_trans hg1 (grown_trans hg2 (World.grownBy_alloc w2 (.cells #[.int .u64 s2, .bool u2, .int .i64 o2] 26) none))); obtain ⟨x0, x1, x2, y0, y1, y2⟩ := two_tags HA.out)) | (go_at_call 13; ((with_reducible refine (hmg _).mono ?_); rintro e w4 ⟨rfl, hg4⟩; have HC := Lib.hid (grown_trans HA.out hg4); obtain ⟨x0, x1, x2, y0, y1, y2⟩ := two_tags HC.out)))
  go_ret
  exact ⟨ret_bool' rfl, grown_trans hg0 HC.out⟩
set_option maxRecDepth 100000 in
set_option maxHeartbeats 8000000 in
theorem c_n_noh (s : Nat) (u : Bool) (o : Int) (t : Nat) (v : Bool) (q : Int) (x : Nat) (s2 : Nat) (u2 : Bool) (o2 : Nat) (p r : Nat)
    (hun : ∀ w, Calls Try.prog 9 #[.int .u64 x] w fun e w' => e = .returned (.tuple #[.agg #[.int .u64 s2, .bool u2, .int .i64 o2], .bool false]) ∧ w.grownBy w' none)
    (hmg : ∀ w, Calls Try.prog 13 #[.agg #[.int .u64 s, .bool u, .int .i64 o]] w fun e w' => e = .returned (.bool true) ∧ w.grownBy w' none)
    (hmh : ∀ w, Calls Try.prog 13 #[.agg #[.int .u64 t, .bool v, .int .i64 q]] w fun e w' => e = .returned (.bool false) ∧ w.grownBy w' none)
    (w : World) : Calls Try.prog 4 #[.agg #[.int .u64 s, .bool u, .int .i64 o], .agg #[.int .u64 t, .bool v, .int .i64 q], .int .u64 x] w fun e w' => e = .returned (.bool true) ∧ w.grownBy w' none := by
  have hg0 : w.grownBy ((w.alloc (.cells #[.int .u64 s, .bool u, .int .i64 o] 24)).alloc (.cells #[.int .u64 t, .bool v, .int .i64 q] 24)) none := grown_trans (World.grownBy_alloc _ _ _) (World.grownBy_alloc _ _ _)
  go_enter Try.func4, Try.ntmps4
  go_wp2_with (first | (go_at_call 8; ((with_reducible refine (awake5 _).mono ?_); rintro e w1 ⟨rfl, hg1⟩)) | (go_at_call 9; ((with_reducible refine (hun _).mono ?_); rintro e w2 ⟨rfl, hg2⟩; have HA := Lib.hid (grown_trans hg1 (grown_trans hg2 (World.grownBy_alloc w2 (.cells #[.int .u64 s2, .bool u2, .int .i64 o2] 26) none))); obtain ⟨x0, x1, x2, y0, y1, y2⟩ := two_tags HA.out)) | (go_at_call 13; ((with_reducible refine (hmg _).mono ?_); rintro e w4 ⟨rfl, hg4⟩; have HC := Lib.hid (grown_trans HA.out hg4); obtain ⟨x0, x1, x2, y0, y1, y2⟩ := two_tags HC.out)) | (go_at_call 13; ((with_reducible refine (hmh _).mono ?_); rintro e w5 ⟨rfl, hg5⟩; have HD := Lib.hid (grown_trans HC.out hg5); obtain ⟨x0, x1, x2, y0, y1, y2⟩ := two_tags HD.out)))
  go_ret
  exact ⟨ret_bool' rfl, grown_trans hg0 HD.out⟩
set_option maxRecDepth 100000 in
set_option maxHeartbeats 8000000 in
theorem c_n_both (s : Nat) (u : Bool) (o : Int) (t : Nat) (v : Bool) (q : Int) (x : Nat) (s2 : Nat) (u2 : Bool) (o2 : Nat) (p r : Nat)
    (hun : ∀ w, Calls Try.prog 9 #[.int .u64 x] w fun e w' => e = .returned (.tuple #[.agg #[.int .u64 s2, .bool u2, .int .i64 o2], .bool false]) ∧ w.grownBy w' none)
    (hmg : ∀ w, Calls Try.prog 13 #[.agg #[.int .u64 s, .bool u, .int .i64 o]] w fun e w' => e = .returned (.bool true) ∧ w.grownBy w' none)
    (hmh : ∀ w, Calls Try.prog 13 #[.agg #[.int .u64 t, .bool v, .int .i64 q]] w fun e w' => e = .returned (.bool true) ∧ w.grownBy w' none)
    (hpg : ∀ w, Calls Try.prog 14 #[.agg #[.int .u64 s, .bool u, .int .i64 o]] w fun e w' => e = .returned (.int .u64 p) ∧ w.grownBy w' none)
    (hph : ∀ w, Calls Try.prog 14 #[.agg #[.int .u64 t, .bool v, .int .i64 q]] w fun e w' => e = .returned (.int .u64 r) ∧ w.grownBy w' none)
    (hup : ∀ w, Calls Try.prog 9 #[.int .u64 p] w fun e w' => e = .returned (.tuple #[.agg #[.int .u64 s, .bool u, .int .i64 o], .bool true]) ∧ w.grownBy w' none)
    (hcase : (p = r ∧ s = t ∧ u = v ∧ o = q) ∨ (((p : Int) == (r : Int)) = false ∧ (((s : Int) == (t : Int)) = false ∨ (s = t ∧ ((u == v) = false ∨ (u = v ∧ (o == q) = false))))))
    (w : World) : Calls Try.prog 4 #[.agg #[.int .u64 s, .bool u, .int .i64 o], .agg #[.int .u64 t, .bool v, .int .i64 q], .int .u64 x] w fun e w' => e = .returned (.bool true) ∧ w.grownBy w' none := by
  have hg0 : w.grownBy ((w.alloc (.cells #[.int .u64 s, .bool u, .int .i64 o] 24)).alloc (.cells #[.int .u64 t, .bool v, .int .i64 q] 24)) none := grown_trans (World.grownBy_alloc _ _ _) (World.grownBy_alloc _ _ _)
  have hmd := fun w => made_any s u o w
  have hmd2 := fun w => made_any t v q w
  rcases hcase with ⟨rfl, rfl, rfl, rfl⟩ | ⟨hpr, hcase | ⟨rfl, hcase | ⟨rfl, hcase⟩⟩⟩
  · go_enter Try.func4, Try.ntmps4
    go_wp2_with (first | (go_at_call 8; ((with_reducible refine (awake5 _).mono ?_); rintro e w1 ⟨rfl, hg1⟩)) | (go_at_call 9; ((with_reducible refine (hun _).mono ?_); rintro e w2 ⟨rfl, hg2⟩; have HA := Lib.hid (grown_trans hg1 (grown_trans hg2 (World.grownBy_alloc w2 (.cells #[.int .u64 s2, .bool u2, .int .i64 o2] 26) none))); obtain ⟨x0, x1, x2, y0, y1, y2⟩ := two_tags HA.out)) | (go_at_call 13; ((with_reducible refine (hmg _).mono ?_); rintro e w4 ⟨rfl, hg4⟩; have HC := Lib.hid (grown_trans HA.out hg4); obtain ⟨x0, x1, x2, y0, y1, y2⟩ := two_tags HC.out)) | (go_at_call 13; ((with_reducible refine (hmh _).mono ?_); rintro e w5 ⟨rfl, hg5⟩; have HD := Lib.hid (grown_trans HC.out hg5); obtain ⟨x0, x1, x2, y0, y1, y2⟩ := two_tags HD.out)) | (go_at_call 12; ((with_reducible refine (hmd _).mono ?_); rintro e w6 ⟨rfl, hg6⟩)) | (go_at_call 14; ((with_reducible refine (hpg _).mono ?_); rintro e w7 ⟨rfl, hg7⟩)) | (go_at_call 9; ((with_reducible refine (hup _).mono ?_); rintro e w8 ⟨rfl, hg8⟩)))
    have hgc := World.grownBy_alloc w8 (.cells #[.int .u64 s, .bool u, .int .i64 o] 26) none
    have G8 := grown_trans HD.out (grown_trans hg6 (grown_trans hg7 (grown_trans hg8 hgc)))
    have hcell : ∀ {wr : World}, (w8.alloc (.cells #[.int .u64 s, .bool u, .int .i64 o] 26)).grownBy wr none →
        (wr.cell? ⟨w.heap.size, 0, none⟩ = some (.int .u64 s) ∧ wr.cell? ⟨w.heap.size, 1, none⟩ = some (.bool u) ∧ wr.cell? ⟨w.heap.size, 2, none⟩ = some (.int .i64 o)) ∧
        (wr.cell? ⟨w.heap.size + 1, 0, none⟩ = some (.int .u64 s) ∧ wr.cell? ⟨w.heap.size + 1, 1, none⟩ = some (.bool u) ∧ wr.cell? ⟨w.heap.size + 1, 2, none⟩ = some (.int .i64 o)) ∧
        (wr.cell? ⟨w8.heap.size, 0, none⟩ = some (.int .u64 s) ∧ wr.cell? ⟨w8.heap.size, 1, none⟩ = some (.bool u) ∧ wr.cell? ⟨w8.heap.size, 2, none⟩ = some (.int .i64 o)) := fun {wr} hg => by
      obtain ⟨c0, c1, c2, d0, d1, d2⟩ := two_tags (grown_trans G8 hg)
      exact ⟨⟨c0, c1, c2⟩, ⟨d0, d1, d2⟩, tag_cells (tag_first hg)⟩
    have HG : (w8.alloc (.cells #[.int .u64 s, .bool u, .int .i64 o] 26)).grownBy (w8.alloc (.cells #[.int .u64 s, .bool u, .int .i64 o] 26)).drew none := grown_drew (grown_refl _ _)
    clear x0 x1 x2 y0 y1 y2
    obtain ⟨⟨x0, x1, x2⟩, ⟨y0, y1, y2⟩, z0, z1, z2⟩ := hcell HG
    go_region_held3 (fun wr => (wr.cell? ⟨w.heap.size, 0, none⟩ = some (.int .u64 s) ∧ wr.cell? ⟨w.heap.size, 1, none⟩ = some (.bool u) ∧ wr.cell? ⟨w.heap.size, 2, none⟩ = some (.int .i64 o)) ∧
        (wr.cell? ⟨w.heap.size + 1, 0, none⟩ = some (.int .u64 s) ∧ wr.cell? ⟨w.heap.size + 1, 1, none⟩ = some (.bool u) ∧ wr.cell? ⟨w.heap.size + 1, 2, none⟩ = some (.int .i64 o)) ∧
        (wr.cell? ⟨w8.heap.size, 0, none⟩ = some (.int .u64 s) ∧ wr.cell? ⟨w8.heap.size, 1, none⟩ = some (.bool u) ∧ wr.cell? ⟨w8.heap.size, 2, none⟩ = some (.int .i64 o))) (exact hcell HG)
      (first | (go_at_call 12; ((with_reducible refine (hmd _).mono ?_); rintro e w9 ⟨rfl, hg9⟩; replace HG := grown_trans HG hg9)) | (go_at_call 12; ((with_reducible refine (hmd2 _).mono ?_); rintro e w9 ⟨rfl, hg9⟩; replace HG := grown_trans HG hg9)) | (go_at_call 14; ((with_reducible refine (hpg _).mono ?_); rintro e w9 ⟨rfl, hg9⟩; replace HG := grown_trans HG hg9)) | (go_at_call 14; ((with_reducible refine (hph _).mono ?_); rintro e w9 ⟨rfl, hg9⟩; replace HG := grown_trans HG hg9)))
    go_wp2
    go_ret
    exact ⟨ret_bool' (by simp), grown_trans hg0 (grown_trans G8 HG)⟩
  · go_enter Try.func4, Try.ntmps4
    go_wp2_with (first | (go_at_call 8; ((with_reducible refine (awake5 _).mono ?_); rintro e w1 ⟨rfl, hg1⟩)) | (go_at_call 9; ((with_reducible refine (hun _).mono ?_); rintro e w2 ⟨rfl, hg2⟩; have HA := Lib.hid (grown_trans hg1 (grown_trans hg2 (World.grownBy_alloc w2 (.cells #[.int .u64 s2, .bool u2, .int .i64 o2] 26) none))); obtain ⟨x0, x1, x2, y0, y1, y2⟩ := two_tags HA.out)) | (go_at_call 13; ((with_reducible refine (hmg _).mono ?_); rintro e w4 ⟨rfl, hg4⟩; have HC := Lib.hid (grown_trans HA.out hg4); obtain ⟨x0, x1, x2, y0, y1, y2⟩ := two_tags HC.out)) | (go_at_call 13; ((with_reducible refine (hmh _).mono ?_); rintro e w5 ⟨rfl, hg5⟩; have HD := Lib.hid (grown_trans HC.out hg5); obtain ⟨x0, x1, x2, y0, y1, y2⟩ := two_tags HD.out)) | (go_at_call 12; ((with_reducible refine (hmd _).mono ?_); rintro e w6 ⟨rfl, hg6⟩)) | (go_at_call 14; ((with_reducible refine (hpg _).mono ?_); rintro e w7 ⟨rfl, hg7⟩)) | (go_at_call 9; ((with_reducible refine (hup _).mono ?_); rintro e w8 ⟨rfl, hg8⟩)))
    have hgc := World.grownBy_alloc w8 (.cells #[.int .u64 s, .bool u, .int .i64 o] 26) none
    have G8 := grown_trans HD.out (grown_trans hg6 (grown_trans hg7 (grown_trans hg8 hgc)))
    have hcell : ∀ {wr : World}, (w8.alloc (.cells #[.int .u64 s, .bool u, .int .i64 o] 26)).grownBy wr none →
        (wr.cell? ⟨w.heap.size, 0, none⟩ = some (.int .u64 s) ∧ wr.cell? ⟨w.heap.size, 1, none⟩ = some (.bool u) ∧ wr.cell? ⟨w.heap.size, 2, none⟩ = some (.int .i64 o)) ∧
        (wr.cell? ⟨w.heap.size + 1, 0, none⟩ = some (.int .u64 t) ∧ wr.cell? ⟨w.heap.size + 1, 1, none⟩ = some (.bool v) ∧ wr.cell? ⟨w.heap.size + 1, 2, none⟩ = some (.int .i64 q)) ∧
        (wr.cell? ⟨w8.heap.size, 0, none⟩ = some (.int .u64 s) ∧ wr.cell? ⟨w8.heap.size, 1, none⟩ = some (.bool u) ∧ wr.cell? ⟨w8.heap.size, 2, none⟩ = some (.int .i64 o)) := fun {wr} hg => by
      obtain ⟨c0, c1, c2, d0, d1, d2⟩ := two_tags (grown_trans G8 hg)
      exact ⟨⟨c0, c1, c2⟩, ⟨d0, d1, d2⟩, tag_cells (tag_first hg)⟩
    have HG : (w8.alloc (.cells #[.int .u64 s, .bool u, .int .i64 o] 26)).grownBy (w8.alloc (.cells #[.int .u64 s, .bool u, .int .i64 o] 26)).drew none := grown_drew (grown_refl _ _)
    clear x0 x1 x2 y0 y1 y2
    obtain ⟨⟨x0, x1, x2⟩, ⟨y0, y1, y2⟩, z0, z1, z2⟩ := hcell HG
    go_region_held3 (fun wr => (wr.cell? ⟨w.heap.size, 0, none⟩ = some (.int .u64 s) ∧ wr.cell? ⟨w.heap.size, 1, none⟩ = some (.bool u) ∧ wr.cell? ⟨w.heap.size, 2, none⟩ = some (.int .i64 o)) ∧
        (wr.cell? ⟨w.heap.size + 1, 0, none⟩ = some (.int .u64 t) ∧ wr.cell? ⟨w.heap.size + 1, 1, none⟩ = some (.bool v) ∧ wr.cell? ⟨w.heap.size + 1, 2, none⟩ = some (.int .i64 q)) ∧
        (wr.cell? ⟨w8.heap.size, 0, none⟩ = some (.int .u64 s) ∧ wr.cell? ⟨w8.heap.size, 1, none⟩ = some (.bool u) ∧ wr.cell? ⟨w8.heap.size, 2, none⟩ = some (.int .i64 o))) (exact hcell HG)
      (first | (go_at_call 12; ((with_reducible refine (hmd _).mono ?_); rintro e w9 ⟨rfl, hg9⟩; replace HG := grown_trans HG hg9)) | (go_at_call 12; ((with_reducible refine (hmd2 _).mono ?_); rintro e w9 ⟨rfl, hg9⟩; replace HG := grown_trans HG hg9)) | (go_at_call 14; ((with_reducible refine (hpg _).mono ?_); rintro e w9 ⟨rfl, hg9⟩; replace HG := grown_trans HG hg9)) | (go_at_call 14; ((with_reducible refine (hph _).mono ?_); rintro e w9 ⟨rfl, hg9⟩; replace HG := grown_trans HG hg9)))
    go_wp2
    go_ret
    exact ⟨ret_bool' (by simp), grown_trans hg0 (grown_trans G8 HG)⟩
  · go_enter Try.func4, Try.ntmps4
    go_wp2_with (first | (go_at_call 8; ((with_reducible refine (awake5 _).mono ?_); rintro e w1 ⟨rfl, hg1⟩)) | (go_at_call 9; ((with_reducible refine (hun _).mono ?_); rintro e w2 ⟨rfl, hg2⟩; have HA := Lib.hid (grown_trans hg1 (grown_trans hg2 (World.grownBy_alloc w2 (.cells #[.int .u64 s2, .bool u2, .int .i64 o2] 26) none))); obtain ⟨x0, x1, x2, y0, y1, y2⟩ := two_tags HA.out)) | (go_at_call 13; ((with_reducible refine (hmg _).mono ?_); rintro e w4 ⟨rfl, hg4⟩; have HC := Lib.hid (grown_trans HA.out hg4); obtain ⟨x0, x1, x2, y0, y1, y2⟩ := two_tags HC.out)) | (go_at_call 13; ((with_reducible refine (hmh _).mono ?_); rintro e w5 ⟨rfl, hg5⟩; have HD := Lib.hid (grown_trans HC.out hg5); obtain ⟨x0, x1, x2, y0, y1, y2⟩ := two_tags HD.out)) | (go_at_call 12; ((with_reducible refine (hmd _).mono ?_); rintro e w6 ⟨rfl, hg6⟩)) | (go_at_call 14; ((with_reducible refine (hpg _).mono ?_); rintro e w7 ⟨rfl, hg7⟩)) | (go_at_call 9; ((with_reducible refine (hup _).mono ?_); rintro e w8 ⟨rfl, hg8⟩)))
    have hgc := World.grownBy_alloc w8 (.cells #[.int .u64 s, .bool u, .int .i64 o] 26) none
    have G8 := grown_trans HD.out (grown_trans hg6 (grown_trans hg7 (grown_trans hg8 hgc)))
    have hcell : ∀ {wr : World}, (w8.alloc (.cells #[.int .u64 s, .bool u, .int .i64 o] 26)).grownBy wr none →
        (wr.cell? ⟨w.heap.size, 0, none⟩ = some (.int .u64 s) ∧ wr.cell? ⟨w.heap.size, 1, none⟩ = some (.bool u) ∧ wr.cell? ⟨w.heap.size, 2, none⟩ = some (.int .i64 o)) ∧
        (wr.cell? ⟨w.heap.size + 1, 0, none⟩ = some (.int .u64 s) ∧ wr.cell? ⟨w.heap.size + 1, 1, none⟩ = some (.bool v) ∧ wr.cell? ⟨w.heap.size + 1, 2, none⟩ = some (.int .i64 q)) ∧
        (wr.cell? ⟨w8.heap.size, 0, none⟩ = some (.int .u64 s) ∧ wr.cell? ⟨w8.heap.size, 1, none⟩ = some (.bool u) ∧ wr.cell? ⟨w8.heap.size, 2, none⟩ = some (.int .i64 o)) := fun {wr} hg => by
      obtain ⟨c0, c1, c2, d0, d1, d2⟩ := two_tags (grown_trans G8 hg)
      exact ⟨⟨c0, c1, c2⟩, ⟨d0, d1, d2⟩, tag_cells (tag_first hg)⟩
    have HG : (w8.alloc (.cells #[.int .u64 s, .bool u, .int .i64 o] 26)).grownBy (w8.alloc (.cells #[.int .u64 s, .bool u, .int .i64 o] 26)).drew none := grown_drew (grown_refl _ _)
    clear x0 x1 x2 y0 y1 y2
    obtain ⟨⟨x0, x1, x2⟩, ⟨y0, y1, y2⟩, z0, z1, z2⟩ := hcell HG
    go_region_held3 (fun wr => (wr.cell? ⟨w.heap.size, 0, none⟩ = some (.int .u64 s) ∧ wr.cell? ⟨w.heap.size, 1, none⟩ = some (.bool u) ∧ wr.cell? ⟨w.heap.size, 2, none⟩ = some (.int .i64 o)) ∧
        (wr.cell? ⟨w.heap.size + 1, 0, none⟩ = some (.int .u64 s) ∧ wr.cell? ⟨w.heap.size + 1, 1, none⟩ = some (.bool v) ∧ wr.cell? ⟨w.heap.size + 1, 2, none⟩ = some (.int .i64 q)) ∧
        (wr.cell? ⟨w8.heap.size, 0, none⟩ = some (.int .u64 s) ∧ wr.cell? ⟨w8.heap.size, 1, none⟩ = some (.bool u) ∧ wr.cell? ⟨w8.heap.size, 2, none⟩ = some (.int .i64 o))) (exact hcell HG)
      (first | (go_at_call 12; ((with_reducible refine (hmd _).mono ?_); rintro e w9 ⟨rfl, hg9⟩; replace HG := grown_trans HG hg9)) | (go_at_call 12; ((with_reducible refine (hmd2 _).mono ?_); rintro e w9 ⟨rfl, hg9⟩; replace HG := grown_trans HG hg9)) | (go_at_call 14; ((with_reducible refine (hpg _).mono ?_); rintro e w9 ⟨rfl, hg9⟩; replace HG := grown_trans HG hg9)) | (go_at_call 14; ((with_reducible refine (hph _).mono ?_); rintro e w9 ⟨rfl, hg9⟩; replace HG := grown_trans HG hg9)))
    go_wp2
    go_ret
    exact ⟨ret_bool' (by simp), grown_trans hg0 (grown_trans G8 HG)⟩
  · go_enter Try.func4, Try.ntmps4
    go_wp2_with (first | (go_at_call 8; ((with_reducible refine (awake5 _).mono ?_); rintro e w1 ⟨rfl, hg1⟩)) | (go_at_call 9; ((with_reducible refine (hun _).mono ?_); rintro e w2 ⟨rfl, hg2⟩; have HA := Lib.hid (grown_trans hg1 (grown_trans hg2 (World.grownBy_alloc w2 (.cells #[.int .u64 s2, .bool u2, .int .i64 o2] 26) none))); obtain ⟨x0, x1, x2, y0, y1, y2⟩ := two_tags HA.out)) | (go_at_call 13; ((with_reducible refine (hmg _).mono ?_); rintro e w4 ⟨rfl, hg4⟩; have HC := Lib.hid (grown_trans HA.out hg4); obtain ⟨x0, x1, x2, y0, y1, y2⟩ := two_tags HC.out)) | (go_at_call 13; ((with_reducible refine (hmh _).mono ?_); rintro e w5 ⟨rfl, hg5⟩; have HD := Lib.hid (grown_trans HC.out hg5); obtain ⟨x0, x1, x2, y0, y1, y2⟩ := two_tags HD.out)) | (go_at_call 12; ((with_reducible refine (hmd _).mono ?_); rintro e w6 ⟨rfl, hg6⟩)) | (go_at_call 14; ((with_reducible refine (hpg _).mono ?_); rintro e w7 ⟨rfl, hg7⟩)) | (go_at_call 9; ((with_reducible refine (hup _).mono ?_); rintro e w8 ⟨rfl, hg8⟩)))
    have hgc := World.grownBy_alloc w8 (.cells #[.int .u64 s, .bool u, .int .i64 o] 26) none
    have G8 := grown_trans HD.out (grown_trans hg6 (grown_trans hg7 (grown_trans hg8 hgc)))
    have hcell : ∀ {wr : World}, (w8.alloc (.cells #[.int .u64 s, .bool u, .int .i64 o] 26)).grownBy wr none →
        (wr.cell? ⟨w.heap.size, 0, none⟩ = some (.int .u64 s) ∧ wr.cell? ⟨w.heap.size, 1, none⟩ = some (.bool u) ∧ wr.cell? ⟨w.heap.size, 2, none⟩ = some (.int .i64 o)) ∧
        (wr.cell? ⟨w.heap.size + 1, 0, none⟩ = some (.int .u64 s) ∧ wr.cell? ⟨w.heap.size + 1, 1, none⟩ = some (.bool u) ∧ wr.cell? ⟨w.heap.size + 1, 2, none⟩ = some (.int .i64 q)) ∧
        (wr.cell? ⟨w8.heap.size, 0, none⟩ = some (.int .u64 s) ∧ wr.cell? ⟨w8.heap.size, 1, none⟩ = some (.bool u) ∧ wr.cell? ⟨w8.heap.size, 2, none⟩ = some (.int .i64 o)) := fun {wr} hg => by
      obtain ⟨c0, c1, c2, d0, d1, d2⟩ := two_tags (grown_trans G8 hg)
      exact ⟨⟨c0, c1, c2⟩, ⟨d0, d1, d2⟩, tag_cells (tag_first hg)⟩
    have HG : (w8.alloc (.cells #[.int .u64 s, .bool u, .int .i64 o] 26)).grownBy (w8.alloc (.cells #[.int .u64 s, .bool u, .int .i64 o] 26)).drew none := grown_drew (grown_refl _ _)
    clear x0 x1 x2 y0 y1 y2
    obtain ⟨⟨x0, x1, x2⟩, ⟨y0, y1, y2⟩, z0, z1, z2⟩ := hcell HG
    go_region_held3 (fun wr => (wr.cell? ⟨w.heap.size, 0, none⟩ = some (.int .u64 s) ∧ wr.cell? ⟨w.heap.size, 1, none⟩ = some (.bool u) ∧ wr.cell? ⟨w.heap.size, 2, none⟩ = some (.int .i64 o)) ∧
        (wr.cell? ⟨w.heap.size + 1, 0, none⟩ = some (.int .u64 s) ∧ wr.cell? ⟨w.heap.size + 1, 1, none⟩ = some (.bool u) ∧ wr.cell? ⟨w.heap.size + 1, 2, none⟩ = some (.int .i64 q)) ∧
        (wr.cell? ⟨w8.heap.size, 0, none⟩ = some (.int .u64 s) ∧ wr.cell? ⟨w8.heap.size, 1, none⟩ = some (.bool u) ∧ wr.cell? ⟨w8.heap.size, 2, none⟩ = some (.int .i64 o))) (exact hcell HG)
      (first | (go_at_call 12; ((with_reducible refine (hmd _).mono ?_); rintro e w9 ⟨rfl, hg9⟩; replace HG := grown_trans HG hg9)) | (go_at_call 12; ((with_reducible refine (hmd2 _).mono ?_); rintro e w9 ⟨rfl, hg9⟩; replace HG := grown_trans HG hg9)) | (go_at_call 14; ((with_reducible refine (hpg _).mono ?_); rintro e w9 ⟨rfl, hg9⟩; replace HG := grown_trans HG hg9)) | (go_at_call 14; ((with_reducible refine (hph _).mono ?_); rintro e w9 ⟨rfl, hg9⟩; replace HG := grown_trans HG hg9)))
    go_wp2
    go_ret
    exact ⟨ret_bool' (by simp), grown_trans hg0 (grown_trans G8 HG)⟩
theorem core (s : Nat) (u : Bool) (o : Int) (t : Nat) (v : Bool) (q : Int) (x : Nat) (hx : x < 18446744073709551616) (w : World) :
    Calls Try.prog 4 #[.agg #[.int .u64 s, .bool u, .int .i64 o], .agg #[.int .u64 t, .bool v, .int .i64 q], .int .u64 x] w fun e w' => e = .returned (.bool true) ∧ w.grownBy w' none := by
  have hun := fun w => tunpack_any x hx w
  have hmg := fun w => rtmay_any s u o w
  have hmh := fun w => rtmay_any t v q w
  have hpg := fun w => tpack_any s u o w
  have hph := fun w => tpack_any t v q w
  have hup : mayP s u o → ∀ w, Calls Try.prog 9 #[.int .u64 (packN s u o : Nat)] w fun e w' => e = .returned (.tuple #[.agg #[.int .u64 s, .bool u, .int .i64 o], .bool true]) ∧ w.grownBy w' none := fun hm w => by
    obtain ⟨k0, k1, k2, k3, k4⟩ := unpack_pack hm
    have := tunpack_any _ k0 w
    rw [decide_eq_true k1, (t_yes k1).1, (t_yes k1).2.1, (t_yes k1).2.2, k2, k3, k4] at this
    exact this
  have hcase : mayP s u o → mayP t v q → (packN s u o = packN t v q ∧ s = t ∧ u = v ∧ o = q) ∨ (((packN s u o : Int) == (packN t v q : Int)) = false ∧ (((s : Int) == (t : Int)) = false ∨ (s = t ∧ ((u == v) = false ∨ (u = v ∧ (o == q) = false))))) := fun h1 h2 => by
    by_cases e : packN s u o = packN t v q
    · exact .inl ⟨e, pack_inj h1 h2 e⟩
    · refine .inr ⟨by rw [beq_eq_false_iff_ne]; omega, ?_⟩
      by_cases e1 : s = t
      · refine .inr ⟨e1, ?_⟩
        by_cases e2 : u = v
        · refine .inr ⟨e2, ?_⟩
          rw [beq_eq_false_iff_ne]
          rintro rfl
          exact e (by rw [e1, e2])
        · exact .inl (by rw [beq_eq_false_iff_ne]; exact e2)
      · exact .inl (by rw [beq_eq_false_iff_ne]; omega)
  by_cases hm : mayW x
  · obtain ⟨q1, q2, q3⟩ := t_yes hm
    rw [q1, q2, q3, decide_eq_true hm] at hun
    have hpx := fun w => tpack_any (usz x) (uus x) (uow x : Nat) w
    rw [pack_unpack x hm] at hpx
    by_cases h1 : mayP s u o
    · rw [decide_eq_true h1] at hmg
      by_cases h2 : mayP t v q
      · rw [decide_eq_true h2] at hmh
        exact c_x_both s u o t v q x _ _ _ _ _ hun hpx hmg hmh hpg hph (hup h1) (hcase h1 h2) w
      · rw [decide_eq_false h2] at hmh
        exact c_x_noh s u o t v q x _ _ _ 0 0 hun hpx hmg hmh w
    · rw [decide_eq_false h1] at hmg
      exact c_x_nog s u o t v q x _ _ _ 0 0 hun hpx hmg w
  · obtain ⟨q1, q2, q3⟩ := t_no hm
    rw [q1, q2, q3, decide_eq_false hm] at hun
    by_cases h1 : mayP s u o
    · rw [decide_eq_true h1] at hmg
      by_cases h2 : mayP t v q
      · rw [decide_eq_true h2] at hmh
        exact c_n_both s u o t v q x _ _ _ _ _ hun hmg hmh hpg hph (hup h1) (hcase h1 h2) w
      · rw [decide_eq_false h2] at hmh
        exact c_n_noh s u o t v q x _ _ _ 0 0 hun hmg hmh w
    · rw [decide_eq_false h1] at hmg
      exact c_n_nog s u o t v q x _ _ _ 0 0 hun hmg w
theorem walk (s : Nat) (u : Bool) (o : Int) (hs : s < 18446744073709551616) (t : Nat) (v : Bool) (q : Int) (ht : t < 18446744073709551616) (a : Int) (wa : (Lit.int .u64 a).wf = true) (w : World) :
    Calls Try.prog 4 #[.agg #[.int .u64 s, .bool u, .int .i64 o], .agg #[.int .u64 t, .bool v, .int .i64 q], .int .u64 a] w fun e w' => e = .returned (.bool true) ∧ Below w.heap.size w w' := by
  have b0 := bounds_u64 wa
  obtain ⟨n, rfl⟩ := Int.eq_ofNat_of_zero_le b0.1
  exact (core s u o t v q n (by omega) w).mono fun e w' ⟨h1, h2⟩ => ⟨h1, grown_below h2⟩

theorem laidOut : laidOutB Try.prog = true := by kernel_rfl
/-! ### The row's step: the guide's frame -/
theorem own : ownKnob Try.prog.godebug = none := by kernel_rfl
set_option maxRecDepth 100000 in
theorem lifted (os : Os) (started : os.Started) (H : Type) (enc : TypeId × Value → H) :
    ReturnsInHanded {} Try.checked os 4 .any (Rows.tagBackSpec.pre6 enc Try.prog Try.f4 Rows.tagBackRow.domain false) (Rows.tagBackSpec.post enc Try.prog Try.f4 false true false false) := by
  refine returnsInHanded_of_change (C := Try.checked) own started (by kernel_rfl) Try.func4
    (ChangeSpec.witness6 (enc := enc) (C := Try.checked) false ⟨#[], #[.agg #[.int .u64 0, .bool false, .int .i64 0], .agg #[.int .u64 0, .bool false, .int .i64 0], .int .u64 0], []⟩ 8 (by kernel_rfl) (by kernel_rfl) (by kernel_rfl) (by kernel_rfl)) ?_
  intro W base args ds gs before hval0 hW hcnd _
  have hval : ∀ (j : Nat) t v, Try.f4.params[j]? = some t → args[j]? = some v → Value.okWide Try.prog W .any base t v := hval0
  have hW' := hW
  obtain ⟨p, q, hA0, hV, rfl, hfz, hnd⟩ := hW
  have hA : DataW.TrodAll enc Try.prog W 0 (fun _ => true) true Try.f4.params.toList args.toList ds p := hA0
  rw [Try.params4] at hA hval
  obtain ⟨v0, vs0, d0, ds0, p0, q0, hargs, rfl, rfl, h0, r0⟩ := trodAll_cons hA
  obtain ⟨v1, vs1, d1, ds1, p1, q1, rfl, rfl, rfl, h1, r1⟩ := trodAll_cons r0
  obtain ⟨v2, vs2, d2, ds2, p2, q2, rfl, rfl, rfl, h2, r2⟩ := trodAll_cons r1
  obtain ⟨rfl, rfl, rfl⟩ := trodAll_nil r2
  obtain rfl : args = #[v0, v1, v2] := by cases args; simp_all
  obtain ⟨rfl, rfl⟩ := trodVars_none hV
  have lt0 : ∀ x ∈ p0, x.block < W.heap.size := by obtain ⟨m, hm⟩ := h0; exact DataW.trod_lt m _ _ _ hm
  obtain ⟨s0, u0, o0, rfl, hs0⟩ := open_tag (hval 0 24 v0 rfl rfl) h0
  have lt1 : ∀ x ∈ p1, x.block < W.heap.size := by obtain ⟨m, hm⟩ := h1; exact DataW.trod_lt m _ _ _ hm
  obtain ⟨s1, u1, o1, rfl, hs1⟩ := open_tag (hval 1 24 v1 rfl rfl) h1
  obtain ⟨a2, rfl, rfl, rfl, w2⟩ := open_int Try.underlying22 (hval 2 22 v2 rfl rfl) h2
  clear hA0 hval0
  refine (walk s0 u0 o0 hs0 s1 u1 o1 hs1 a2 w2 W).mono fun e W' ⟨he, bel⟩ => ?_
  subst he
  exact ⟨_, rfl, _, _, _, [], _, [], hW', trodAll_mk1 (shut_bool Try.underlying4 _), (trodAll_cons_mk (Below.trod laidOut (by kernel_rfl) (of_decide_eq_true (by kernel_rfl)) h0 bel lt0) (trodAll_cons_mk (Below.trod laidOut (by kernel_rfl) (of_decide_eq_true (by kernel_rfl)) h1 bel lt1) (trodAll_cons_mk (shut_int Try.underlying22 w2) trodAll_mk0))), rfl, bel.frame _, fun h => by cases h⟩

theorem over : Rows.tagBackRow.holds Try.pinned (OpenSpec.ofChange Rows.tagBackSpec) :=
  OpenClaim.holds_of_wide 4 Try.f4 rfl rfl rfl rfl rfl rfl rfl ⟨rfl, rfl, rfl, rfl, rfl⟩ rfl rfl rfl rfl rfl (by kernel_rfl) Try.func4 (by kernel_rfl)
    (of_decide_eq_true (by kernel_rfl)) (by unfold Func.isWrapper; first | (rw [if_pos (by decide +kernel)]; kernel_rfl) | (rw [if_neg (by decide +kernel)]; exact ⟨rfl, rfl⟩))
    (fun os started H enc _ => lifted os started H enc)

theorem proved : Rows.TagBackSaid :=
  over
#print axioms proved


end Go.Proofs.Ytgebkdngglljeaa.tagBack
