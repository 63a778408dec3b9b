/-
  Any name as two words, and any two words as one: as the document says, there and back. The statement WordNames, for every string and every two words; no condition.
-/
import Derived.Test.YtebkpcbajheciaaWordL
import Derived.Test.YtebkpcbajheciaaRows
import Derived.Lib.SmallJoins
import Derived.ProofKit
import Derived.OpenShut
import Derived.Carry
import Derived.ChangeOld
namespace Go.Proofs.Ytebkpcbajheciaa.wordNames
open Go.ChangeShapes Go.WideShapes Go.ChangeAt Go.RowKit
open Go.ChangeMaps (open_string shut_string)
set_option linter.unusedVariables false
set_option linter.unusedSimpArgs false

/-! ### Two words that are handed in -/
theorem cells_w : Try.prog.cellsOf 22 = 1 := by kernel_rfl
theorem cells_w2 : Try.prog.cellsOf 31 = 2 := by kernel_rfl
section
variable {H : Type} {enc : TypeId × Value → H} {w : World} {base : Nat} {spare : Nat → Bool} {held : Bool}
theorem okWide_pair {r : Reach} {b0 : Nat} {v : Value} (h : Value.okWide Try.prog w r b0 31 v) : ∃ cs, v = .agg cs ∧ cs.size = Try.prog.cellsOf 31 := by
  have ht := Try.underlying31
  unfold Value.okWide at h
  simp only [ht] at h
  cases v <;> simp_all
theorem open_pair {r : Reach} {b0 : Nat} {v : Value} {d : DataW H} {p : List MemPlace} (hv : Value.okWide Try.prog w r b0 31 v) (h : DataW.Trod enc Try.prog w base spare held 31 v d p) :
    ∃ x0 x1 : Int, v = .agg #[.int .u64 x0, .int .u64 x1] ∧ (Lit.int .u64 x0).wf = true ∧ (Lit.int .u64 x1).wf = true := by
  obtain ⟨cs, rfl, hsz⟩ := okWide_pair hv
  obtain ⟨c0, c1, rfl⟩ := Joins.array2 (hsz.trans cells_w2)
  obtain ⟨fuel, hf⟩ := h
  obtain ⟨xs, m, _, _, _, hl, hx⟩ := DataW.trod_array Try.underlying31 hf
  have a0 := hx 0 (by decide)
  have a1 := hx 1 (by decide)
  rw [cells_w] at a0 a1
  obtain ⟨y0, e0⟩ : ∃ y, xs[0]? = some y := ⟨_, List.getElem?_eq_getElem (by omega)⟩
  obtain ⟨y1, e1⟩ : ∃ y, xs[1]? = some y := ⟨_, List.getElem?_eq_getElem (by omega)⟩
  rw [e0] at a0
  rw [e1] at a1
  obtain ⟨n0, g0, _, w0⟩ := DataW.trod_int Try.underlying22 a0
  obtain ⟨n1, g1, _, w1⟩ := DataW.trod_int Try.underlying22 a1
  simp [Value.cells] at g0 g1
  exact ⟨n0, n1, by rw [g0, g1], w0, w1⟩
end

/-! ### Cells that stay -/
theorem size_new {W w' : World} {O : Obj} (hb : Below (W.alloc O).heap.size (W.alloc O) w') : W.heap.size < w'.heap.size := by
  have := hb.size; rw [World.size_alloc] at this; omega
theorem later_alloc {W w' : World} {O : Obj} {b o : Nat} {v : Value} (hb : Below (W.alloc O).heap.size (W.alloc O) w') (hlt : b < W.heap.size) (h : W.cell? ⟨b, o, none⟩ = some v) : w'.cell? ⟨b, o, none⟩ = some v :=
  cell_later hb ((World.cell?_alloc_old _ _ _ (Nat.ne_of_lt hlt)).trans h)
theorem later_new0 {W w' : World} {x y : Value} {t : TypeId} (hb : Below (W.alloc (.cells #[x, y] t)).heap.size (W.alloc (.cells #[x, y] t)) w') : w'.cell? ⟨W.heap.size, 0, none⟩ = some x :=
  cell_later hb (World.cell?_alloc_at _ _ _ _ rfl)
theorem later_new1 {W w' : World} {x y : Value} {t : TypeId} (hb : Below (W.alloc (.cells #[x, y] t)).heap.size (W.alloc (.cells #[x, y] t)) w') : w'.cell? ⟨W.heap.size, 1, none⟩ = some y :=
  cell_later hb (World.cell?_alloc_at _ _ _ _ rfl)

/-- What all seven calls tell: Pack of s, Name of x0 and x1, and each other's of what they told. -/
structure Tells (s ns bs : ByteArray) (x0 x1 pl ph ql qh : Nat) (po nb qo : Bool) : Prop where
  P : ∀ w : World, Calls Try.prog 24 #[.string s] w fun e w' => e = .returned (.tuple #[.agg #[.int .u64 pl, .int .u64 ph], .bool po]) ∧ Below w.heap.size w w'
  RP : ∀ w : World, Calls Try.prog 25 #[.string s] w fun e w' => e = .returned (.tuple #[.agg #[.int .u64 pl, .int .u64 ph], .bool po]) ∧ Below w.heap.size w w'
  N : ∀ w : World, Calls Try.prog 26 #[.agg #[.int .u64 x0, .int .u64 x1]] w fun e w' => e = .returned (.tuple #[.string ns, .bool nb]) ∧ Below w.heap.size w w'
  RN : ∀ w : World, Calls Try.prog 27 #[.agg #[.int .u64 x0, .int .u64 x1]] w fun e w' => e = .returned (.tuple #[.string ns, .bool nb]) ∧ Below w.heap.size w w'
  B : ∀ w : World, Calls Try.prog 26 #[.agg #[.int .u64 pl, .int .u64 ph]] w fun e w' => e = .returned (.tuple #[.string bs, .bool po]) ∧ Below w.heap.size w w'
  Q : ∀ w : World, Calls Try.prog 24 #[.string ns] w fun e w' => e = .returned (.tuple #[.agg #[.int .u64 ql, .int .u64 qh], .bool qo]) ∧ Below w.heap.size w w'
  back : po = true → bs = s
  again : nb = true → qo = true ∧ ql = x0 ∧ qh = x1
theorem names (x0 x1 : Nat) (h0 : x0 < 18446744073709551616) (h1 : x1 < 18446744073709551616) : ∃ ns ql qh nb qo,
    (∀ w : World, Calls Try.prog 26 #[.agg #[.int .u64 x0, .int .u64 x1]] w fun e w' => e = .returned (.tuple #[.string ns, .bool nb]) ∧ Below w.heap.size w w') ∧
    (∀ w : World, Calls Try.prog 27 #[.agg #[.int .u64 x0, .int .u64 x1]] w fun e w' => e = .returned (.tuple #[.string ns, .bool nb]) ∧ Below w.heap.size w w') ∧
    (∀ w : World, Calls Try.prog 24 #[.string ns] w fun e w' => e = .returned (.tuple #[.agg #[.int .u64 (ql : Nat), .int .u64 (qh : Nat)], .bool qo]) ∧ Below w.heap.size w w') ∧
    (nb = true → qo = true ∧ ql = x0 ∧ qh = x1) := by
  by_cases hs : ∃ s : ByteArray, 1 ≤ s.size ∧ s.size ≤ 15 ∧ loS s = x0 ∧ hiS s = x1
  · obtain ⟨s, a, b, rfl, rfl⟩ := hs
    exact ⟨s, _, _, _, _, name_yes s a b, rname_yes s a b, pack_yes s a b, fun _ => ⟨rfl, rfl, rfl⟩⟩
  · have hno : ∀ s : ByteArray, 1 ≤ s.size → s.size ≤ 15 → ¬ (loS s = x0 ∧ hiS s = x1) := fun s a b h => hs ⟨s, a, b, h⟩
    exact ⟨_, 0, 0, _, _, name_no x0 x1 h0 h1 hno, rname_no x0 x1 h0 h1 hno, pack_not _ (.inl rfl) (by decide), fun h => by cases h⟩
theorem zero_none : ∀ s : ByteArray, 1 ≤ s.size → s.size ≤ 15 → ¬ (loS s = 0 ∧ hiS s = 0) := by
  intro s a b h
  have := byte_first s (by omega)
  rw [h.1, h.2] at this
  simp [byteAt] at this
  omega
theorem tells_any (s : ByteArray) (hs : s.size ≤ 9223372036854775807) (x0 x1 : Nat) (h0 : x0 < 18446744073709551616) (h1 : x1 < 18446744073709551616) : ∃ ns bs pl ph ql qh po nb qo, Tells s ns bs x0 x1 pl ph ql qh po nb qo := by
  obtain ⟨ns, ql, qh, nb, qo, n1, n2, n3, n4⟩ := names x0 x1 h0 h1
  by_cases h : s.size = 0 ∨ 15 < s.size
  · exact ⟨ns, _, 0, 0, ql, qh, _, nb, qo, { P := pack_not s h hs, RP := rpack_not s h hs, N := n1, RN := n2, B := name_no 0 0 (by decide) (by decide) zero_none, Q := n3, back := (fun h => by cases h), again := n4 }⟩
  · exact ⟨ns, _, _, _, ql, qh, _, nb, qo, { P := pack_yes s (by omega) (by omega), RP := rpack_any s (by omega) (by omega), N := n1, RN := n2, B := name_yes s (by omega) (by omega), Q := n3, back := fun _ => rfl, again := n4 }⟩

theorem ret_bool {b : Bool} (h : b = true) : Ending.returned (.bool b) = .returned (.bool true) := by rw [h]
set_option maxHeartbeats 2000000 in
theorem walk_core (s ns bs : ByteArray) (hs : s.size ≤ 9223372036854775807) (x0 x1 pl ph ql qh : Nat) (po nb qo : Bool) (HT : Tells s ns bs x0 x1 pl ph ql qh po nb qo) (w : World) :
    Calls Try.prog 5 #[.string s, .agg #[.int .u64 x0, .int .u64 x1]] w fun e w' => e = .returned (.bool true) ∧ Below w.heap.size w w' := by
  by_cases hl : 100 < (s.size : Int)
  · go_enter Try.func5, Try.ntmps5
    go_wp2_with (first | (go_at_call 9; refine (awake_any _).mono ?_; rintro e w1 ⟨rfl, hb1⟩))
    go_ret
    exact ⟨rfl, ((Below.refl _ _).alloc (Nat.le_refl _) _).trans (hb1.mono (by simp))⟩
  · have heq := eq_arr
    have HB := HT.back
    have HA := HT.again
    cases po <;> cases nb
    all_goals
      try obtain ⟨rfl, rfl, rfl⟩ := HA rfl
      try obtain rfl := HB rfl
      clear HA HB
      go_enter Try.func5, Try.ntmps5
      go_wp2_with (first | (go_at_call 9; refine (awake_any _).mono ?_; rintro e w1 ⟨rfl, hb1⟩; have q1 := later_new0 hb1; have q1' := later_new1 hb1; have z1 := size_new hb1) | (go_at_call 24; (with_reducible refine (HT.P _).mono ?_); rintro e w2 ⟨rfl, hb2⟩; have q2 := cell_later hb2 q1; have q2' := cell_later hb2 q1'; have z2 := hb2.size; have y2 : w.heap.size < w2.heap.size := by omega) | (go_at_call 25; (with_reducible refine (HT.RP _).mono ?_); rintro e w3 ⟨rfl, hb3⟩; have q3 := later_alloc hb3 y2 q2; have q3' := later_alloc hb3 y2 q2'; have r3 := later_new0 hb3; have r3' := later_new1 hb3; have z3 := size_new hb3; have y3 : w.heap.size < w3.heap.size := by omega) | (go_at_call 26; (with_reducible refine (HT.N _).mono ?_); rintro e w4 ⟨rfl, hb4⟩; have q4 := later_alloc hb4 y3 q3; have q4' := later_alloc hb4 y3 q3'; have r4 := later_alloc hb4 z3 r3; have r4' := later_alloc hb4 z3 r3'; have s4 := later_new0 hb4; have s4' := later_new1 hb4; have z4 := size_new hb4; have y4 : w.heap.size < w4.heap.size := (by omega); have x4 : w2.heap.size < w4.heap.size := by omega) | (go_at_call 27; (with_reducible refine (HT.RN _).mono ?_); rintro e w5 ⟨rfl, hb5⟩; have q5 := cell_later hb5 q4; have q5' := cell_later hb5 q4'; have r5 := cell_later hb5 r4; have r5' := cell_later hb5 r4'; have s5 := cell_later hb5 s4; have s5' := cell_later hb5 s4'; have z5 := hb5.size) | (go_at_call 26; (with_reducible refine (HT.B _).mono ?_); rintro e w6 ⟨rfl, hb6⟩; have q6 := cell_later hb6 q5; have q6' := cell_later hb6 q5'; have r6 := cell_later hb6 r5; have r6' := cell_later hb6 r5'; have s6 := cell_later hb6 s5; have s6' := cell_later hb6 s5'; have z6 := hb6.size) | (go_at_call 24; (with_reducible refine (HT.Q _).mono ?_); rintro e w7 ⟨rfl, hb7⟩; have q7 := cell_later hb7 q6; have q7' := cell_later hb7 q6'; have r7 := cell_later hb7 r6; have r7' := cell_later hb7 r6'; have s7 := cell_later hb7 s6; have s7' := cell_later hb7 s6'; have z7 := hb7.size; have y7 : w.heap.size < w7.heap.size := (by omega); have x7 : w2.heap.size < w7.heap.size := (by omega); have v7 : w3.heap.size < w7.heap.size := by omega))
      have d1 : Below w.heap.size w w1 := ((Below.refl _ _).alloc (Nat.le_refl _) _).trans (hb1.mono (by rw [World.size_alloc]; omega))
      have d2 := d1.trans (hb2.mono (by omega))
      have d3 := (d2.alloc (by omega) _).trans (hb3.mono (by rw [World.size_alloc]; omega))
      have d4 := (d3.alloc (by omega) _).trans (hb4.mono (by rw [World.size_alloc]; omega))
      have d7 := ((d4.trans (hb5.mono (by omega))).trans (hb6.mono (by omega))).trans (hb7.mono (by omega))
      go_ret
      exact ⟨rfl, d7.alloc (by omega) _⟩
theorem walk (a0 : ByteArray) (w0 : a0.size ≤ maxLen) (a1 a2 : Int) (w1 : (Lit.int .u64 a1).wf = true) (w2 : (Lit.int .u64 a2).wf = true) (w : World) :
    Calls Try.prog 5 #[.string a0, .agg #[.int .u64 a1, .int .u64 a2]] w fun e w' => e = .returned (.bool true) ∧ Below w.heap.size w w' := by
  have b1 := bounds_u64 w1
  have b2 := bounds_u64 w2
  obtain ⟨n, rfl⟩ := Int.eq_ofNat_of_zero_le b1.1
  obtain ⟨m, rfl⟩ := Int.eq_ofNat_of_zero_le b2.1
  have hs : a0.size ≤ 9223372036854775807 := by unfold maxLen at w0; omega
  obtain ⟨ns, bs, pl, ph, ql, qh, po, nb, qo, HT⟩ := tells_any a0 hs n m (by omega) (by omega)
  exact walk_core a0 ns bs hs n m pl ph ql qh po nb qo HT w

/-! ### The row's step: the guide's frame -/
theorem own : ownKnob Try.prog.godebug = none := by kernel_rfl
theorem laidOut : laidOutB Try.prog = true := by kernel_rfl
set_option maxRecDepth 100000 in
theorem lifted (os : Os) (started : os.Started) (H : Type) (enc : TypeId × Value → H) :
    ReturnsInHanded {} Try.checked os 5 .any (Rows.wordNamesSpec.pre6 enc Try.prog Try.f5 Rows.wordNamesRow.domain false) (Rows.wordNamesSpec.post enc Try.prog Try.f5 false true false false) := by
  refine returnsInHanded_of_change (C := Try.checked) own started (by kernel_rfl) Try.func5
    (ChangeSpec.witness6 (enc := enc) (C := Try.checked) false ⟨#[], #[.string ByteArray.empty, .agg #[.int .u64 0, .int .u64 0]], []⟩ 8 (by kernel_rfl) (by kernel_rfl) (by kernel_rfl) (by kernel_rfl)) ?_
  intro W base args ds gs before hval0 hW hcnd _
  have hval : ∀ (j : Nat) t v, Try.f5.params[j]? = some t → args[j]? = some v → Value.okWide Try.prog W .any base t v := hval0
  have hW' := hW
  obtain ⟨p, q, hA0, hV, rfl, hfz, hnd⟩ := hW
  have hA : DataW.TrodAll enc Try.prog W 0 (fun _ => true) true Try.f5.params.toList args.toList ds p := hA0
  rw [Try.params5] at hA hval
  obtain ⟨v0, vs0, d0, ds0, p0, q0, hargs, rfl, rfl, h0, r0⟩ := trodAll_cons hA
  obtain ⟨v1, vs1, d1, ds1, p1, q1, rfl, rfl, rfl, h1, r1⟩ := trodAll_cons r0
  obtain ⟨rfl, rfl, rfl⟩ := trodAll_nil r1
  obtain rfl : args = #[v0, v1] := by cases args; simp_all
  obtain ⟨rfl, rfl⟩ := trodVars_none hV
  obtain ⟨a0, rfl, rfl, rfl, w0⟩ := open_string Try.underlying9 (hval 0 9 v0 rfl rfl) h0
  have lt1 : ∀ x ∈ p1, x.block < W.heap.size := by obtain ⟨m, hm⟩ := h1; exact DataW.trod_lt m _ _ _ hm
  obtain ⟨x0, x1, rfl, w1, w2⟩ := open_pair (hval 1 31 v1 rfl rfl) h1
  clear hA0 hval0
  refine (walk a0 w0 x0 x1 w1 w2 W).mono fun e W' ⟨he, bel⟩ => ?_
  subst he
  exact ⟨_, rfl, _, _, _, [], _, [], hW', trodAll_mk1 (shut_bool Try.underlying4 _), (trodAll_cons_mk (shut_string Try.underlying9 w0) (trodAll_cons_mk (Below.trod laidOut (by kernel_rfl) (of_decide_eq_true (by kernel_rfl)) h1 bel lt1) trodAll_mk0)), rfl, bel.frame _, fun h => by cases h⟩

theorem over : Rows.wordNamesRow.holds Try.pinned (OpenSpec.ofChange Rows.wordNamesSpec) :=
  OpenClaim.holds_of_wide 5 Try.f5 rfl rfl rfl rfl rfl rfl rfl ⟨rfl, rfl, rfl, rfl, rfl⟩ rfl rfl rfl rfl rfl (by kernel_rfl) Try.func5 (by kernel_rfl)
    (of_decide_eq_true (by kernel_rfl)) (by unfold Func.isWrapper; first | (rw [if_pos (by decide +kernel)]; kernel_rfl) | (rw [if_neg (by decide +kernel)]; exact ⟨rfl, rfl⟩))
    (fun os started H enc _ => lifted os started H enc)

theorem proved : Rows.WordNamesSaid :=
  over
#print axioms proved
end Go.Proofs.Ytebkpcbajheciaa.wordNames
