/-
  The contract of the plain answer Bytes, whole.
  Conditions: the words are a row of the call's own, or nil; the numbers are of 64 bits.
-/
import Derived.Test.YtdmogmdhdhgmeaaSegT
namespace Go.Proofs.Ytdmogmdhdhgmeaa
open Go.RowKit
set_option linter.unusedVariables false
set_option linter.unusedSimpArgs false

/-- 'append(out, y)' of one byte: its own law at one new cell. -/
theorem wpList_append_u8 {w2 : World} {ops : Array Oper} {rest : List Oper} {o : Oper} {a : Act} {Q : Exit → Act → World → Prop} (hgd : o.guard = none) (s x : Operand)
    (ho : o.op = .call { callee := .builtin .append, args := #[s, x], argTypes := #[30, 30] })
    (base : Nat) (v : Value) (n : Nat) (xs : List Value) (hs : a.eval s = v) (hown : w2.ownsRow base 5 1 v n xs) (y : Int)
    (hx : a.eval x = .slice (some ⟨w2.heap.size, 0, none⟩) 1 1) (hn : n ≤ 1000000000) (hbase : base ≤ w2.heap.size)
    (h : ∀ v' w', w'.ownsRow base 5 1 v' (n + 1) (xs ++ [.int .u8 y]) → (w2.alloc (.cells #[.int .u8 y] 5)).grownBy w' v.ownBlock → wpList Try.prog ops Q rest (a.put o.dst v') w') :
    wpList Try.prog ops Q (o :: rest) a (w2.alloc (.cells #[.int .u8 y] 5)) := by
  obtain ⟨i0, hi, hz0, hz1, hz2⟩ := info_parts info_byte
  refine wpList_append_own _ hgd s x 30 ho base 5 i0 (.int .u8 0) 1 1 Try.underlying30 hi hz0 hz1 hz2 rfl (by decide) v n xs hs (hown.alloc _) ⟨w2.heap.size, 0, none⟩ 1 1 [.int .u8 y] hx rfl ?_ ?_ ?_ ?_ ?_ fun v' w' h1 h2 _ => h v' w' h1 h2
  · intro j u hj
    rcases j with _ | j
    · simp at hj
      subst hj
      exact World.cell?_alloc_at _ _ _ _ rfl
    · simp at hj
  · intro u hu
    simp at hu
    subst hu
    rfl
  · unfold maxLen; omega
  · omega
  · rw [World.size_alloc]; omega
/-- bytes, as cells -/
def bytesL (f : Nat → Nat) (k : Nat) : List Value := (List.range k).map fun j => .int .u8 (f j : Nat)
theorem bytesL_next (f : Nat → Nat) (k : Nat) : bytesL f (k + 1) = bytesL f k ++ [.int .u8 (f k : Nat)] := by
  unfold bytesL
  rw [List.range_succ, List.map_append]
  rfl
theorem bytesL_at (f : Nat → Nat) (k j : Nat) (h : j < k) : (bytesL f k)[j]? = some (.int .u8 (f j : Nat)) := by
  simp [bytesL, h]
/-- What holds at the head of the loop: k bytes are told. -/
structure OutRel (w : World) (f : Nat → Nat) (k : Nat) (v : Value) (wr : World) : Prop where
  grown : w.grownBy wr none
  own : wr.ownsRow w.heap.size 5 1 v k (bytesL f k)
theorem OutRel.first (w : World) (f : Nat → Nat) : OutRel w f 0 (.slice none 0 0) w := ⟨grown_refl _ _, World.ownsRow_nil _ _ _ _⟩
theorem OutRel.more {w wr w' : World} {f : Nat → Nat} {k : Nat} {v v' : Value} (R : OutRel w f k v wr) (O : Obj) (hg2 : (wr.alloc O).grownBy w' v.ownBlock)
    (hown : w'.ownsRow w.heap.size 5 1 v' (k + 1) (bytesL f k ++ [.int .u8 (f k : Nat)])) : OutRel w f (k + 1) v' w' := by
  refine ⟨?_, ?_⟩
  · exact grown_step (grown_trans R.grown (World.grownBy_alloc wr O none)) hg2 fun i hi => .inl (R.own.lt i hi).1
  · rw [bytesL_next]; exact hown
theorem OutRel.bytes {w wr : World} {f : Nat → Nat} {n : Nat} {v : Value} (R : OutRel w f n v wr) : BytesAt wr v f n := by
  rcases R.own.2 with ⟨h1, h2⟩ | ⟨g, cap, cur, hv, _⟩
  · exact .inl ⟨h1, h2⟩
  · have ho := R.own
    subst hv
    refine .inr ⟨g, cap, rfl, (ho.lt g rfl).2, fun j hj => ?_⟩
    rw [World.ownsRow.cellAt ho j (by omega), bytesL_at f n j hj]
set_option maxHeartbeats 400000 in
theorem rbytes_yes {w : World} {base : Nat} {v : Value} {ws : List Nat} (h : OwnW w base v ws) (hm : ws.length ≤ 131072) (hw : ∀ x ∈ ws, x < 18446744073709551616) (off n : Nat) (hwi : within ws off n) :
    Calls Try.prog 12 #[v, .int .u64 off, .int .u64 n] w fun e w' => ∃ v', e = .returned (.tuple #[v', .int .i64 0]) ∧ OutRel w (fun j => byteN ws (off + j)) n v' w' := by
  obtain ⟨h1, h2, h3⟩ := hwi
  have h1' : 1 ≤ ws.length := by
    rcases ws with _ | ⟨a, l⟩
    · exact absurd rfl h1
    · simp
  obtain ⟨a, c, rfl⟩ := h.slice
  have e0 : ((8 * (ws.length : Int)) == 0) = false := by rw [beq_eq_false_iff_ne]; omega
  have hoff : off ≤ 1048576 := by omega
  have hn : n ≤ 1048576 := by omega
  obtain ⟨f, hf⟩ : ∃ f : Nat → Nat, f = fun j => byteN ws (off + j) := ⟨_, rfl⟩
  rw [← hf]
  have R0 := OutRel.first w f
  have hone := fun (w' : World) (hg : w.grownBy w' none) (k : Nat) (hk : k < n) => one_any (h.later hg) hm hw (off + k) (by omega)
  have hone' : ∀ (w' : World) (hg : w.grownBy w' none) (k : Nat) (hk : k < n), Calls Try.prog 23 #[.slice a ws.length c, .int .u64 ((off : Int) + (k : Int))] w' fun e w'' => e = .returned (.int .u8 (f k : Nat)) ∧ w' = w'' := by
    rw [hf]
    intro w' hg k hk
    have := hone w' hg k hk
    rw [Int.natCast_add] at this
    exact this
  have H1 := Lib.hid h1
  have d1 : decide (8 * ws.length < off) = false := decide_eq_false (by omega)
  have d2 : IntKind.u64.wrap (8 * (ws.length : Int) - off) = ((8 * ws.length - off : Nat) : Int) := by rw [IntWalk.u64_in _ (by omega)]; omega
  have d3 : decide (8 * ws.length - off < n) = false := decide_eq_false (by omega)
  have H3 := Lib.hid h3
  have HF := Lib.hid hf
  clear h1 h3 hone hf
  go_enter Try.func12, Try.ntmps12
  go_wp2
  go_loopw [9, 10] (fun v i wr => ∃ k : Nat, k ≤ n ∧ i = .int .u64 k ∧ OutRel w f k v wr) (fun _ i _ => n - (intOf i).toNat)
  case atStart => exact ⟨0, Nat.zero_le _, rfl, R0⟩
  case round =>
    obtain ⟨k, hk, rfl, R⟩ := hrel
    clear R0
    by_cases hlt : k < n
    · have hc := hone' _ R.grown k hlt
      have hown := R.own
      have hbs := R.grown.size
      go_wp2_with (first | (go_at_call 23; ((with_reducible refine hc.mono ?_); rintro e w1 ⟨rfl, rfl⟩)) | (at_builtin; go_must (refine wpList_append_u8 rfl _ _ rfl w.heap.size _ _ _ rfl hown _ rfl (by omega) hbs ?_); intro v' w3 hown3 hg4))
      go_roundw
      case rel => exact ⟨k + 1, by omega, by go_num, R.more _ hg4 hown3⟩
      case measure => simp [intOf]; omega
    · obtain rfl : k = n := by omega
      go_wp2
      go_ret2
      exact ⟨_, rfl, R⟩
end Go.Proofs.Ytdmogmdhdhgmeaa
