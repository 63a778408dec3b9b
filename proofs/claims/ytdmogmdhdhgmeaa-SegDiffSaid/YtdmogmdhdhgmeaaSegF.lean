/-
  Package seg: the contract of Bytes: some bytes, or ErrArg; nothing that was there has turned.
  Conditions: the segment is nobody's, or stands in memory; the numbers are of 64 bits.
-/
import Derived.Test.YtdmogmdhdhgmeaaSegE
namespace Go.Proofs.Ytdmogmdhdhgmeaa
open Go.RowKit
set_option linter.unusedVariables false
set_option linter.unusedSimpArgs false

/-- may n bytes from off on be told? -/
def within (ws : List Nat) (off n : Nat) : Prop := ws ≠ [] ∧ off ≤ 8 * ws.length ∧ n ≤ 8 * ws.length - off
instance (ws : List Nat) (off n : Nat) : Decidable (within ws off n) := by unfold within; infer_instance
theorem bytes_no {w : World} {v : Value} {ws : List Nat} (h : SegAt w v ws) (off n : Nat) (ho : off < 18446744073709551616) (hn : n < 18446744073709551616) (hno : ¬ within ws off n) :
    Calls Try.prog 11 #[v, .int .u64 off, .int .u64 n] w fun e w' => e = .returned (.tuple #[.slice none 0 0, .int .i64 1]) ∧ w = w' := by
  rcases h with ⟨rfl, rfl⟩ | ⟨B, D, rfl, h⟩
  · go_enter Try.func11, Try.ntmps11
    go_wp2
    go_ret2
    exact ⟨rfl, rfl⟩
  · have hsz := size_any (.inr ⟨B, D, rfl, h⟩)
    have hm := h.most
    have h1 := h.some1
    have hne : ws ≠ [] := by intro e; rw [e] at h1; exact absurd h1 (by decide)
    by_cases c1 : off ≤ 8 * ws.length
    · have c2 : ¬ n ≤ 8 * ws.length - off := fun c => hno ⟨hne, c1, c⟩
      clear hno hne
      have d1 : ¬ (((8 * ws.length : Nat) : Int) < (off : Int)) := by omega
      have d2 : (((8 * ws.length : Nat) : Int) - (off : Int)) < (n : Int) := by omega
      generalize 8 * ws.length = L at *
      have c2' := Lib.hid c2
      clear c2
      go_enter Try.func11, Try.ntmps11
      go_wp2_with (go_at_call 19; refine hsz.mono ?_; rintro e w' ⟨rfl, rfl⟩)
      go_ret2
      exact ⟨rfl, rfl⟩
    · clear hno hne
      have d1 : ((8 * ws.length : Nat) : Int) < (off : Int) := by omega
      generalize 8 * ws.length = L at *
      go_enter Try.func11, Try.ntmps11
      go_wp2_with (go_at_call 19; refine hsz.mono ?_; rintro e w' ⟨rfl, rfl⟩)
      go_ret2
      exact ⟨rfl, rfl⟩
/-- copy of n bytes from a segment into a row that was just made -/
theorem copy_bytes {w : World} {B D : Nat} {ws : List Nat} (h : IsSeg w B D ws) (off n c c' : Nat) (t : TypeId) (hfit : off + n ≤ 8 * ws.length) (m : Nat) (hm : n ≤ m) :
    (Builtin.copy_ #[30, 30] t #[.slice (some ⟨w.heap.size, 0, none⟩) n c, .slice (some ⟨D, off, none⟩) m c']).run Try.prog (w.alloc (.cells (rowOf (fun _ => 0) n) 5)) =
      .ok (goInt n) (w.alloc (.cells (rowOf (fun j => byteN ws (off + j)) n) 5)) := by
  have hl : (rowOf (fun j => byteN ws (off + j)) n).toList.length = n := by simp [size_rowOf]
  have hr := run_copy_row (P := Try.prog) (w.alloc (.cells (rowOf (fun _ => 0) n) 5)) 30 30 t 5 w.heap.size 0 n c ⟨D, off, none⟩ m c' (rowOf (fun _ => 0) n) 5 (rowOf (fun j => byteN ws (off + j)) n).toList Try.underlying30 size_byte (heap_alloc_new' _ _) (by rw [hl]; exact (Nat.min_eq_right hm).symm)
    (by
      intro j v hj
      have hjn : j < n := by
        rcases Nat.lt_or_ge j n with h' | h'
        · exact h'
        · rw [List.getElem?_eq_none (by rw [hl]; exact h')] at hj; exact absurd hj (by simp)
      have hv : v = .int .u8 (byteN ws (off + j) : Nat) := by
        have := rowOf_at (fun j => byteN ws (off + j)) n j hjn
        rw [Array.getElem?_toList, this] at hj
        exact (Option.some.inj hj).symm
      have hadd : (⟨D, off, none⟩ : Addr).add j = ⟨D, off + j, none⟩ := by unfold Addr.add; split <;> simp_all
      rw [hadd, hv]
      exact (h.later (World.grownBy_alloc _ _ _)).at_ (off + j) (by omega))
    (by rw [hl, size_rowOf]; omega) (rowOf_one _ _)
  rw [hr, hl]
  congr 1
  rw [show ((rowOf (fun _ => 0) n).toList.take 0 ++ (rowOf (fun j => byteN ws (off + j)) n).toList ++ (rowOf (fun _ => 0) n).toList.drop (0 + n)).toArray = rowOf (fun j => byteN ws (off + j)) n by
    rw [List.take_zero, List.nil_append, List.drop_of_length_le (by simp [size_rowOf]), List.append_nil]]
  exact World.setRow_alloc_new _ _ _ _
/-- What is told: a row of its own that holds the bytes. -/
structure Told (w : World) (f : Nat → Nat) (n : Nat) (w' : World) : Prop where
  grown : w.grownBy w' none
  row : w'.heap[w.heap.size]? = some (.cells (rowOf f n) 5 (0, 0))
theorem Told.made (w : World) (f : Nat → Nat) (n : Nat) : Told w f n (w.alloc (.cells (rowOf f n) 5)) := ⟨World.grownBy_alloc _ _ _, heap_alloc_new' _ _⟩
theorem bytes_yes {w : World} {B D : Nat} {ws : List Nat} (h : IsSeg w B D ws) (off n : Nat) (hw : within ws off n) :
    Calls Try.prog 11 #[.pointer (some ⟨B, 0, none⟩), .int .u64 off, .int .u64 n] w fun e w' => e = .returned (.tuple #[.slice (some ⟨w.heap.size, 0, none⟩) n n, .int .i64 0]) ∧ Told w (fun j => byteN ws (off + j)) n w' := by
  obtain ⟨_, h2, h3⟩ := hw
  have hsz := size_any (.inr ⟨B, D, rfl, h⟩)
  have hm := h.most
  have h1 := h.some1
  have hd := (h.later (World.grownBy_alloc w (.cells (rowOf (fun _ => 0) n) 5) _)).hd
  have hmk := make_bytes .u64 n (by omega)
  have d1 : ¬ (((8 * ws.length : Nat) : Int) < (off : Int)) := by omega
  have d2 : ¬ (((8 * ws.length : Nat) : Int) - (off : Int)) < (n : Int) := by omega
  by_cases hc : 8 * ws.length = off
  · have hn0 : n = 0 := by omega
    have hL : 8 * ws.length ≤ 1048576 := by omega
    have e1 : decide (8 * ws.length < 8 * ws.length) = false := decide_eq_false (by omega)
    have hrow := Told.made w (fun j => byteN ws (off + j)) n
    rw [rowOf_congr (f := fun j => byteN ws (off + j)) (g := fun _ => 0) (fun j hj => absurd hj (by omega))] at hrow
    have hcp : ∀ (w : World) (d a : Option Addr) (c c' : Nat) (t : TypeId), (Builtin.copy_ #[30, 30] t #[.slice d n c, .slice a 0 c']).run Try.prog w = .ok (goInt n) w := by
      subst hn0
      exact fun (w : World) (d a : Option Addr) (c c' : Nat) (t : TypeId) => run_copy_none (P := Try.prog) w 30 30 t 5 d a 0 c 0 c' Try.underlying30 size_byte (by decide)
    have e3 : decide (0 < n) = false := decide_eq_false (by omega)
    have e4 : (0 < (n : Int)) = False := by simp; omega
    subst hc
    clear h1 h2 h3 d1 d2 hm hn0
    generalize 8 * ws.length = L at *
    go_enter Try.func11, Try.ntmps11
    go_wp2_with (go_at_call 19; refine hsz.mono ?_; rintro e w' ⟨rfl, rfl⟩)
    go_ret2
    exact ⟨rfl, hrow⟩
  · have hcp := fun (c c' : Nat) (t : TypeId) => copy_bytes h off n c c' t (by omega) (8 * ws.length - off) (by omega)
    have hrow := Told.made w (fun j => byteN ws (off + j)) n
    have hlt : off < 8 * ws.length := by omega
    have hL : 8 * ws.length ≤ 1048576 := by omega
    have e1 : decide (8 * ws.length < off) = false := decide_eq_false (by omega)
    have e2 : IntKind.u64.wrap (((8 * ws.length : Nat) : Int) - off) = ((8 * ws.length - off : Nat) : Int) := by rw [IntWalk.u64_in _ (by omega)]; omega
    have e3 : decide (8 * ws.length - off < n) = false := decide_eq_false (by omega)
    have H1 := Lib.hid h1
    have H3 := Lib.hid h3
    clear h1 h3 d1 d2 hm
    generalize 8 * ws.length = L at *
    go_enter Try.func11, Try.ntmps11
    go_wp2_with (go_at_call 19; refine hsz.mono ?_; rintro e w' ⟨rfl, rfl⟩)
    go_ret2
    exact ⟨rfl, hrow⟩
end Go.Proofs.Ytdmogmdhdhgmeaa
