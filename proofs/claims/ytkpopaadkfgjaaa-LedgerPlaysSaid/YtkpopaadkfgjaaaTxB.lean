/-
  Package tx: the contracts of New, Size, Old, has, Load and Bare, of a Tx that is nil, and of one over a segment.
  Conditions: the segment stands in memory; offsets and words are numbers of 64 bits.
-/
import Derived.Test.YtkpopaadkfgjaaaTxA
namespace Go.Proofs.Ytkpopaadkfgjaaa
open Go.RowKit
set_option linter.unusedVariables false
set_option linter.unusedSimpArgs false

theorem txnew_nil (w : World) : Calls Try.prog 25 #[.pointer none] w fun e w' => e = .returned (.pointer none) ∧ w = w' := by
  go_enter Try.func25, Try.ntmps25
  go_wp2
  go_ret
  exact ⟨rfl, rfl⟩
theorem txnew_yes {w : World} {B D : Nat} {ws : List Nat} (h : IsSeg w B D ws) :
    Calls Try.prog 25 #[.pointer (some ⟨B, 0, none⟩)] w fun e w' => e = .returned (.pointer (some ⟨w.heap.size + 1, 0, none⟩)) ∧ w.grownBy w' none ∧ Thinks w' (w.heap.size + 1) w.heap.size none B D ws [] := by
  have hmm := @run_makeMap Try.prog
  go_enter Try.func25, Try.ntmps25
  go_wp2
  go_ret
  have hg : w.grownBy ((w.alloc (.map #[] 0)).alloc (.cells #[.pointer (some ⟨B, 0, none⟩), .map (some w.heap.size), .slice none 0 0] 89)) none := grown_trans (World.grownBy_alloc _ _ _) (World.grownBy_alloc _ _ _)
  refine ⟨rfl, hg, h.later hg, ⟨.slice none 0 0, ?_, World.ownsRow_nil _ _ _ _, rfl⟩, ⟨.map [], World.ownsMap.alloc (World.ownsMap_made _ _ _ _) _, Says.empty⟩, TxOk.empty _⟩
  have := heap_alloc_new' (w.alloc (.map #[] 0)) (.cells #[.pointer (some ⟨B, 0, none⟩), .map (some w.heap.size), .slice none 0 0] 89)
  rw [World.size_alloc] at this
  exact this

theorem txsize_nil (w : World) : Calls Try.prog 58 #[.pointer none] w fun e w' => e = .returned (.int .u64 0) ∧ w = w' := by
  go_enter Try.func58, Try.ntmps58
  go_wp2
  go_ret
  exact ⟨rfl, rfl⟩
section
variable {w : World} {T M : Nat} {R : Option Nat} {B D : Nat} {ws : List Nat} {l : List (Nat × Nat)}
theorem Thinks.cells (h : Thinks w T M R B D ws l) : ∃ tv, w.cell? ⟨T, 0, none⟩ = some (.pointer (some ⟨B, 0, none⟩)) ∧ w.cell? ⟨T, 1, none⟩ = some (.map (some M)) ∧ w.cell? ⟨T, 2, none⟩ = some tv ∧ w.frozen? ⟨T, 2, none⟩ = false ∧ OwnW w 0 tv (txKeys l) ∧ tv.ownBlock = R := by
  obtain ⟨tv, h1, h2, h3⟩ := h.head
  exact ⟨tv, by simp [World.cell?, h1], by simp [World.cell?, h1], by simp [World.cell?, h1], by simp [World.frozen?, h1], h2, h3⟩
theorem txsize_any (h : Thinks w T M R B D ws l) :
    Calls Try.prog 58 #[.pointer (some ⟨T, 0, none⟩)] w fun e w' => e = .returned (.int .u64 (8 * ws.length : Nat)) ∧ w = w' := by
  obtain ⟨tv, c0, _⟩ := h.cells
  have hs := size_any (.inr ⟨B, D, rfl, h.seg⟩)
  have hm := h.seg.most
  go_enter Try.func58, Try.ntmps58
  go_wp2_with (go_at_call 39; refine hs.mono ?_; rintro e w' ⟨rfl, rfl⟩)
  go_ret
  exact ⟨rfl, rfl⟩
theorem txold_any (h : Thinks w T M R B D ws l) (off : Nat) (ho : off < 18446744073709551616) :
    Calls Try.prog 37 #[.pointer (some ⟨T, 0, none⟩), .int .u64 off] w fun e w' => e = .returned (.int .u64 (getW ws off : Nat)) ∧ w.grownBy w' none := by
  obtain ⟨tv, c0, _⟩ := h.cells
  have hl := load_any (.inr ⟨B, D, rfl, h.seg⟩) off ho
  go_enter Try.func37, Try.ntmps37
  go_wp2_with (go_at_call 61; refine hl.mono ?_; rintro e w1 ⟨rfl, hg1⟩)
  go_ret
  exact ⟨rfl, hg1⟩
theorem errW_eq (ws : List Nat) (off : Nat) : (((errW ws off : Nat) : Int) == 0) = decide (stands ws off) := by
  unfold errW
  by_cases h : stands ws off
  · rw [if_pos h, decide_eq_true h]; rfl
  · rw [if_neg h, decide_eq_false h]; rfl
theorem txhas_any (h : Thinks w T M R B D ws l) (off : Nat) (ho : off < 18446744073709551616) :
    Calls Try.prog 47 #[.pointer (some ⟨T, 0, none⟩), .int .u64 off] w fun e w' => e = .returned (.bool (decide (stands ws off))) ∧ w.grownBy w' none := by
  obtain ⟨tv, c0, _⟩ := h.cells
  have hl := load_any (.inr ⟨B, D, rfl, h.seg⟩) off ho
  have he := errW_eq ws off
  have HE := Lib.hid he
  clear he
  go_enter Try.func47, Try.ntmps47
  go_wp2_with (go_at_call 61; refine hl.mono ?_; rintro e w1 ⟨rfl, hg1⟩)
  go_ret
  exact ⟨by rw [← HE.out]; rfl, hg1⟩
/-- what the map tells at an offset -/
theorem map_at (h : Thinks w T M R B D ws l) : ∃ Da : DataW Unit, w.ownsMap Try.prog 30 (plainElem Try.prog 30) M l.length Da ∧ Says Da l := h.map
theorem seen_int {off : Nat} {c : Int} {Da : DataW Unit} (hs : Says Da l) (hat : Da.atKey (.int .u64 off) (.lit (.int .u64 0)) = .lit (.int .u64 c)) : c = ((txGet l off).getD 0 : Nat) := by
  rw [hs.at_ off] at hat
  injection hat with hat
  injection hat with _ hat
  exact hat.symm
theorem txload_any (h : Thinks w T M R B D ws l) (off : Nat) (ho : off < 18446744073709551616) :
    Calls Try.prog 21 #[.pointer (some ⟨T, 0, none⟩), .int .u64 off] w fun e w' => e = .returned (.int .u64 (txSee ws l off : Nat)) ∧ w.grownBy w' none := by
  obtain ⟨tv, c0, c1, _⟩ := h.cells
  obtain ⟨Da, hown, hs⟩ := h.map
  have hhas := hs.has off
  have hold := txold_any h off ho
  rcases e : txGet l off with _ | y
  · rw [e] at hhas
    have hsee : txSee ws l off = getW ws off := by unfold txSee; rw [e]; rfl
    rw [hsee]
    have HH := Lib.hid hhas
    clear hhas e hsee h
    go_enter Try.func21, Try.ntmps21
    go_wp2_with (first | (at_lookup; refine wpList_lookup_own_ok_int _ rfl _ _ 87 rfl 30 30 .u64 keyed_u64 Try.underlying87 Try.underlying30 (zero_u64 _) M _ Da rfl hown _ _ rfl (key_u64 off ho) ?_; intro c hat hwc; rw [HH.out]) | (go_at_call 37; refine hold.mono ?_; rintro e w1 ⟨rfl, hg1⟩))
    go_ret
    exact ⟨rfl, hg1⟩
  · rw [e] at hhas
    have hsee : txSee ws l off = y := by unfold txSee; rw [e]; rfl
    have hy := fun c h => seen_int (off := off) (c := c) hs h
    rw [e] at hy
    rw [hsee]
    have HH := Lib.hid hhas
    have HY := Lib.hid hy
    clear hhas e hsee h hy
    go_enter Try.func21, Try.ntmps21
    go_wp2_with (first | (at_lookup; refine wpList_lookup_own_ok_int _ rfl _ _ 87 rfl 30 30 .u64 keyed_u64 Try.underlying87 Try.underlying30 (zero_u64 _) M _ Da rfl hown _ _ rfl (key_u64 off ho) ?_; intro c hat hwc; rw [HH.out]; obtain rfl := HY.out c hat))
    go_ret
    exact ⟨rfl, grown_refl _ _⟩
end
theorem txold_nil (off : Nat) (w : World) : Calls Try.prog 37 #[.pointer none, .int .u64 off] w fun e w' => e = .returned (.int .u64 0) ∧ w = w' := by
  go_enter Try.func37, Try.ntmps37
  go_wp2
  go_ret
  exact ⟨rfl, rfl⟩
theorem txload_nil (off : Nat) (w : World) : Calls Try.prog 21 #[.pointer none, .int .u64 off] w fun e w' => e = .returned (.int .u64 0) ∧ w = w' := by
  go_enter Try.func21, Try.ntmps21
  go_wp2
  go_ret
  exact ⟨rfl, rfl⟩
theorem txhas_nil (off : Nat) (w : World) : Calls Try.prog 47 #[.pointer none, .int .u64 off] w fun e w' => e = .returned (.bool false) ∧ w = w' := by
  go_enter Try.func47, Try.ntmps47
  go_wp2
  go_ret
  exact ⟨rfl, rfl⟩
theorem txstore_nil (off v : Nat) (w : World) : Calls Try.prog 26 #[.pointer none, .int .u64 off, .int .u64 v] w fun e w' => e = .returned (.tuple #[]) ∧ w = w' := by
  have hh := txhas_nil off w
  go_enter Try.func26, Try.ntmps26
  go_wp2_with (go_at_call 47; refine hh.mono ?_; rintro e w' ⟨rfl, rfl⟩)
  refine bodyPost_ret (results_none rfl _ _ _) rfl ?_
  exact ⟨rfl, rfl⟩
end Go.Proofs.Ytkpopaadkfgjaaa
