/-
  Package tree: the contracts of key, toward, lead and find.
  Conditions: the Tx stands in memory; of find: the words say a tree.
-/
import Derived.Test.YthhboidjibdahaaGreatTreeC
import Derived.Test.YthhboidjibdahaaGreatTreeI
import Derived.Test.YthhboidjibdahaaGreatLTag
namespace Go.Proofs.YthhboidjibdahaaGreat
open Go.RowKit
set_option linter.unusedVariables false
set_option linter.unusedSimpArgs false

theorem mix_rk (x : Nat) (w : World) : Calls Tryz.prog 46 #[.int .u64 x] w fun e w' => e = .returned (.int .u64 (rkN x : Nat)) ∧ w = w' := by
  have := mix_any x w
  rwa [rkN_wrap] at this
theorem rkN_zero : rkN 0 = 0 := by unfold rkN; rw [IntKind.wrap_u64]; rfl
/-- the first key is smaller -/
def ltK (s o s' o' : Nat) : Prop := s < s' ∨ (s = s' ∧ o < o')
instance (s o s' o' : Nat) : Decidable (ltK s o s' o') := by unfold ltK; infer_instance
theorem cmpK_lt {s o s' o' : Nat} (h : ltK s o s' o') : cmpK s o s' o' = -1 := by
  unfold cmpK ltK at *
  rcases h with h | ⟨rfl, h⟩
  · rw [cmpN_lt h]; simp
  · rw [cmpN_eq, if_pos rfl, cmpN_lt h]
theorem cmpK_ge {s o s' o' : Nat} (h : ¬ ltK s o s' o') : cmpK s o s' o' = 0 ∨ cmpK s o s' o' = 1 := by
  unfold ltK at h
  unfold cmpK
  rcases cmpN_three s s' with ⟨h1, e⟩ | ⟨h1, e⟩ | ⟨h1, e⟩
  · omega
  · rw [e]; simp
  · rw [e, if_pos rfl]
    rcases cmpN_three o o' with ⟨h2, e2⟩ | ⟨h2, e2⟩ | ⟨h2, e2⟩
    · omega
    · exact .inr e2
    · exact .inl e2
/-- one cell, as a block -/
theorem one_first {w w' : World} {x : Value} {t : TypeId} (hg : (w.alloc (.cells #[x] t)).grownBy w' none) : w'.heap[w.heap.size]? = some (.cells #[x] t (0, 0)) := by
  have h1 : (w.alloc (.cells #[x] t)).heap[w.heap.size]? = some (.cells #[x] t (0, 0)) := heap_alloc_new' _ _
  exact (hg.block _ (lt_of_block h1) (by simp)).trans h1
theorem two_frozen {w : World} {b : Nat} {x y : Value} {t : TypeId} (h : w.heap[b]? = some (.cells #[x, y] t (0, 0))) : w.frozen? ⟨b, 0, none⟩ = false ∧ w.frozen? ⟨b, 1, none⟩ = false := by
  exact ⟨by simp [World.frozen?, h], by simp [World.frozen?, h]⟩
theorem two_put {w : World} {b : Nat} {x y x' y' : Value} {t : TypeId} (h : w.heap[b]? = some (.cells #[x, y] t (0, 0))) : ((w.setCell ⟨b, 0, none⟩ x').setCell ⟨b, 1, none⟩ y').heap[b]? = some (.cells #[x', y'] t (0, 0)) := by
  rw [heap_setCell_same (heap_setCell_same h x') y']; rfl
theorem two_grown {w0 w : World} {b : Nat} {x' y' : Value} (h : w0.grownBy w none) (hb : w0.heap.size ≤ b) : w0.grownBy ((w.setCell ⟨b, 0, none⟩ x').setCell ⟨b, 1, none⟩ y') none :=
  grown_new (grown_trans (grown_any h _) (grown_trans (grown_set _ _ _ _) (grown_set _ _ _ _))) hb
section
variable {w : World} {T M : Nat} {R : Option Nat} {B D : Nat} {ws : List Nat} {l : List (Nat × Nat)}
set_option maxHeartbeats 1000000 in
theorem tkey_any (h : Thinks w T M R B D ws l) (off : Nat) (ho : off < 18446744073709551616) :
    Calls Tryz.prog 27 #[.agg #[.pointer (some ⟨T, 0, none⟩)], .int .u64 off] w fun e w' => e = .returned (.agg #[.int .u64 (tS (txSee ws l off) : Nat), .int .u64 off]) ∧ w.grownBy w' none := by
  have hload := fun (w1 : World) (hg : w.grownBy w1 none) => txload_any (h.later hg) off ho
  have hlt := txSee_lt h.seg.words h.ok off
  obtain ⟨x, hx⟩ : ∃ x, txSee ws l off = x := ⟨_, rfl⟩
  rw [hx] at hload hlt ⊢
  have hun := fun w1 => tunpack_any x hlt w1
  obtain ⟨s, hs⟩ : ∃ s, tS x = s := ⟨_, rfl⟩
  obtain ⟨u, hu⟩ : ∃ u, tU x = u := ⟨_, rfl⟩
  obtain ⟨o, ho⟩ : ∃ o, tO x = o := ⟨_, rfl⟩
  obtain ⟨m, hm⟩ : ∃ m, decide (mayW x) = m := ⟨_, rfl⟩
  rw [hs, hu, ho, hm] at hun
  rw [hs]
  have hg0 : w.grownBy ((w.alloc (.cells #[.pointer (some ⟨T, 0, none⟩)] 61)).alloc (.cells #[.int .u64 0, .int .u64 0] 66)) none := grown_trans (World.grownBy_alloc _ _ _) (World.grownBy_alloc _ _ _)
  have hb : ((w.alloc (.cells #[.pointer (some ⟨T, 0, none⟩)] 61)).alloc (.cells #[.int .u64 0, .int .u64 0] 66)).heap[w.heap.size + 1]? = some (.cells #[.int .u64 0, .int .u64 0] 66 (0, 0)) := by
    have := heap_alloc_new' (w.alloc (.cells #[.pointer (some ⟨T, 0, none⟩)] 61)) (.cells #[.int .u64 0, .int .u64 0] 66)
    rwa [World.size_alloc] at this
  have HB := Lib.hid hb
  clear hs hu ho hm hx hlt h hb
  go_enter Tryz.func27, Tryz.ntmps27
  go_wp2_with (first | (go_at_call 24; (with_reducible refine (hload _ hg0).mono ?_); rintro e w1 ⟨rfl, hg1⟩) | (go_at_call 50; (with_reducible refine (hun _).mono ?_); rintro e w2 ⟨rfl, hg2⟩; have HG := Lib.hid (grown_trans hg0 (grown_trans hg1 hg2)); have HB2 := Lib.hid (two_held (two_held (two_held HB.out hg1) hg2) (World.grownBy_alloc w2 (.cells #[.int .u64 s, .bool u, .int .i64 o] 102) none)); obtain ⟨c0, c1⟩ := two_cells HB2.out; obtain ⟨f0, f1⟩ := two_frozen HB2.out))
  have hb := two_put HB2.out (x' := .int .u64 s) (y' := .int .u64 off)
  obtain ⟨k0, k1⟩ := two_cells hb
  refine bodyPost_ret (v := .agg #[.int .u64 s, .int .u64 off]) (by simp [results, Tryz.results27, go_sem, k0, k1]) rfl ?_
  exact ⟨rfl, two_grown (grown_trans HG.out (World.grownBy_alloc _ _ _)) (by omega)⟩
set_option maxHeartbeats 1000000 in
theorem toward_core (h : Thinks w T M R B D ws l) (off s o : Nat) (ho : off < 18446744073709551616) (c : Int) (q : Nat) (hc : cmpK s o (tS (txSee ws l off)) off = c) (hq : (c = -1 ∧ (off + 8) % 18446744073709551616 = q) ∨ ((c = 0 ∨ c = 1) ∧ (off + 16) % 18446744073709551616 = q)) :
    Calls Tryz.prog 47 #[.agg #[.pointer (some ⟨T, 0, none⟩)], .int .u64 off, .agg #[.int .u64 s, .int .u64 o]] w fun e w' => e = .returned (.int .u64 q) ∧ w.grownBy w' none := by
  have hkey := fun (w1 : World) (hg : w.grownBy w1 none) => tkey_any (h.later hg) off ho
  obtain ⟨z, hz⟩ : ∃ z, tS (txSee ws l off) = z := ⟨_, rfl⟩
  rw [hz] at hc hkey
  have hcmp := fun w => tcompare_grown s o z off w
  rw [hc] at hcmp
  have hg0 : w.grownBy ((w.alloc (.cells #[.pointer (some ⟨T, 0, none⟩)] 61)).alloc (.cells #[.int .u64 s, .int .u64 o] 66)) none := grown_trans (World.grownBy_alloc _ _ _) (World.grownBy_alloc _ _ _)
  have ha : ((w.alloc (.cells #[.pointer (some ⟨T, 0, none⟩)] 61)).alloc (.cells #[.int .u64 s, .int .u64 o] 66)).heap[w.heap.size]? = some (.cells #[.pointer (some ⟨T, 0, none⟩)] 61 (0, 0)) := (Below.heap_alloc _ _ _ (by simp)).trans (heap_alloc_new' w _)
  have hb : ((w.alloc (.cells #[.pointer (some ⟨T, 0, none⟩)] 61)).alloc (.cells #[.int .u64 s, .int .u64 o] 66)).heap[w.heap.size + 1]? = some (.cells #[.int .u64 s, .int .u64 o] 66 (0, 0)) := by
    have := heap_alloc_new' (w.alloc (.cells #[.pointer (some ⟨T, 0, none⟩)] 61)) (.cells #[.int .u64 s, .int .u64 o] 66)
    rwa [World.size_alloc] at this
  obtain ⟨W, hW⟩ : ∃ W, (w.alloc (.cells #[.pointer (some ⟨T, 0, none⟩)] 61)).alloc (.cells #[.int .u64 s, .int .u64 o] 66) = W := ⟨_, rfl⟩
  rw [hW] at ha hb hg0
  have hcell : ∀ {wr : World}, W.grownBy wr none → wr.cell? ⟨w.heap.size, 0, none⟩ = some (.pointer (some ⟨T, 0, none⟩)) ∧ wr.cell? ⟨w.heap.size + 1, 0, none⟩ = some (.int .u64 s) ∧ wr.cell? ⟨w.heap.size + 1, 1, none⟩ = some (.int .u64 o) := fun {wr} hg => ⟨cell_of_one ((hg.block _ (lt_of_block ha) (by simp)).trans ha), two_cells (two_held hb hg)⟩
  have HG : W.grownBy W.drew none := grown_drew (grown_refl _ _)
  obtain ⟨d0, d1, d2⟩ := hcell HG
  clear h hc hz
  rcases hq with ⟨rfl, hq⟩ | ⟨rfl | rfl, hq⟩
  · have e1 : IntKind.u64.wrap ((off : Int) + 8) = (q : Nat) := by rw [IntKind.wrap_u64]; omega
    clear hq
    go_enter Tryz.func47, Tryz.ntmps47
    go_wp2
    go_region_held3 (fun wr => wr.cell? ⟨w.heap.size, 0, none⟩ = some (.pointer (some ⟨T, 0, none⟩)) ∧ wr.cell? ⟨w.heap.size + 1, 0, none⟩ = some (.int .u64 s) ∧ wr.cell? ⟨w.heap.size + 1, 1, none⟩ = some (.int .u64 o)) (exact hcell HG) (first | (go_at_call 27; (with_reducible refine (hkey _ (grown_trans hg0 HG)).mono ?_); rintro e w9 ⟨rfl, hg9⟩; replace HG := grown_trans HG hg9; obtain ⟨d0, d1, d2⟩ := hcell HG) | (go_at_call 49; (with_reducible refine (hcmp _).mono ?_); rintro e w9 ⟨rfl, hg9⟩; replace HG := grown_trans HG hg9; obtain ⟨d0, d1, d2⟩ := hcell HG))
    all_goals go_wp2
    go_ret
    exact ⟨rfl, grown_trans hg0 HG⟩
  · have e1 : IntKind.u64.wrap ((off : Int) + 16) = (q : Nat) := by rw [IntKind.wrap_u64]; omega
    clear hq
    go_enter Tryz.func47, Tryz.ntmps47
    go_wp2
    go_region_held3 (fun wr => wr.cell? ⟨w.heap.size, 0, none⟩ = some (.pointer (some ⟨T, 0, none⟩)) ∧ wr.cell? ⟨w.heap.size + 1, 0, none⟩ = some (.int .u64 s) ∧ wr.cell? ⟨w.heap.size + 1, 1, none⟩ = some (.int .u64 o)) (exact hcell HG) (first | (go_at_call 27; (with_reducible refine (hkey _ (grown_trans hg0 HG)).mono ?_); rintro e w9 ⟨rfl, hg9⟩; replace HG := grown_trans HG hg9; obtain ⟨d0, d1, d2⟩ := hcell HG) | (go_at_call 49; (with_reducible refine (hcmp _).mono ?_); rintro e w9 ⟨rfl, hg9⟩; replace HG := grown_trans HG hg9; obtain ⟨d0, d1, d2⟩ := hcell HG))
    all_goals go_wp2
    go_ret
    exact ⟨rfl, grown_trans hg0 HG⟩
  · have e1 : IntKind.u64.wrap ((off : Int) + 16) = (q : Nat) := by rw [IntKind.wrap_u64]; omega
    clear hq
    go_enter Tryz.func47, Tryz.ntmps47
    go_wp2
    go_region_held3 (fun wr => wr.cell? ⟨w.heap.size, 0, none⟩ = some (.pointer (some ⟨T, 0, none⟩)) ∧ wr.cell? ⟨w.heap.size + 1, 0, none⟩ = some (.int .u64 s) ∧ wr.cell? ⟨w.heap.size + 1, 1, none⟩ = some (.int .u64 o)) (exact hcell HG) (first | (go_at_call 27; (with_reducible refine (hkey _ (grown_trans hg0 HG)).mono ?_); rintro e w9 ⟨rfl, hg9⟩; replace HG := grown_trans HG hg9; obtain ⟨d0, d1, d2⟩ := hcell HG) | (go_at_call 49; (with_reducible refine (hcmp _).mono ?_); rintro e w9 ⟨rfl, hg9⟩; replace HG := grown_trans HG hg9; obtain ⟨d0, d1, d2⟩ := hcell HG))
    all_goals go_wp2
    go_ret
    exact ⟨rfl, grown_trans hg0 HG⟩
theorem toward_left (h : Thinks w T M R B D ws l) (off s o : Nat) (ho : off + 8 < 18446744073709551616) (hk : ltK s o (tS (txSee ws l off)) off) :
    Calls Tryz.prog 47 #[.agg #[.pointer (some ⟨T, 0, none⟩)], .int .u64 off, .agg #[.int .u64 s, .int .u64 o]] w fun e w' => e = .returned (.int .u64 (off + 8 : Nat)) ∧ w.grownBy w' none :=
  toward_core h off s o (by omega) (-1) (off + 8) (cmpK_lt hk) (.inl ⟨rfl, by omega⟩)
theorem toward_right (h : Thinks w T M R B D ws l) (off s o : Nat) (ho : off + 16 < 18446744073709551616) (hk : ¬ ltK s o (tS (txSee ws l off)) off) :
    Calls Tryz.prog 47 #[.agg #[.pointer (some ⟨T, 0, none⟩)], .int .u64 off, .agg #[.int .u64 s, .int .u64 o]] w fun e w' => e = .returned (.int .u64 (off + 16 : Nat)) ∧ w.grownBy w' none :=
  toward_core h off s o (by omega) _ (off + 16) rfl (.inr ⟨cmpK_ge hk, by omega⟩)
/-- What a link leads to is told otherwise. -/
def Led (ws : List Nat) (l : List (Nat × Nat)) (lk v : Nat) (l' : List (Nat × Nat)) : Prop := ∀ q, txSee ws l' q = if q = lk then v else txSee ws l q
theorem Led.at_ {lk v : Nat} {l' : List (Nat × Nat)} (h : Led ws l lk v l') : txSee ws l' lk = v := by rw [h, if_pos rfl]
theorem Led.off {lk v : Nat} {l' : List (Nat × Nat)} (h : Led ws l lk v l') : ∀ q, q ≠ lk → txSee ws l' q = txSee ws l q := fun q hq => by rw [h, if_neg hq]
set_option maxHeartbeats 1000000 in
theorem tlead_any (h : Thinks w T M R B D ws l) (lk v : Nat) (hs : stands ws lk) (hlk : lk < 18446744073709551616) (hv : v < 18446744073709551616) :
    Calls Tryz.prog 25 #[.agg #[.pointer (some ⟨T, 0, none⟩)], .int .u64 lk, .int .u64 v] w fun e w' => e = .returned (.tuple #[]) ∧ ∃ l', Thought w T M R B D ws l' w' ∧ Led ws l lk v l' := by
  have hload := fun (w1 : World) (hg : w.grownBy w1 none) => txload_any (h.later hg) lk hlk
  have hstore := fun (w1 : World) (hg : w.grownBy w1 none) => txstore_any (h.later hg) lk v hlk hv
  have hg0 : w.grownBy (w.alloc (.cells #[.pointer (some ⟨T, 0, none⟩)] 61)) none := World.grownBy_alloc _ _ _
  obtain ⟨x, hx⟩ : ∃ x, txSee ws l lk = x := ⟨_, rfl⟩
  rw [hx] at hload
  have HX := Lib.hid hx
  have HT := Lib.hid h
  have HS := Lib.hid hs
  clear hx h hs
  by_cases hxv : x = v
  · subst hxv
    go_enter Tryz.func25, Tryz.ntmps25
    go_wp2_with (first | (go_at_call 24; (with_reducible refine (hload _ hg0).mono ?_); rintro e w1 ⟨rfl, hg1⟩))
    go_end0
    refine ⟨rfl, l, Thought.same HT.out (grown_trans hg0 hg1), fun q => ?_⟩
    by_cases e : q = lk
    · rw [if_pos e, e, HX.out]
    · rw [if_neg e]
  · have hne : ¬ (x : Int) = (v : Int) := by omega
    go_enter Tryz.func25, Tryz.ntmps25
    go_wp2_with (first | (go_at_call 24; (with_reducible refine (hload _ hg0).mono ?_); rintro e w1 ⟨rfl, hg1⟩; have hb := Lib.hid (one_first hg1); have c0 := cell_of_one hb.out) | (go_at_call 21; (with_reducible refine (hstore _ (grown_trans hg0 hg1)).mono ?_); rintro e w2 ⟨rfl, ht⟩))
    go_end0
    exact ⟨rfl, _, Thought.first (grown_trans hg0 hg1) ht, fun q => see_stored HS.out q⟩
end
end Go.Proofs.YthhboidjibdahaaGreat
