/-
  With one of the head's words otherwise (but that of the lock, and of the tree) a formatted segment isn't checked. The statement HeadOdd, for every three numbers; no condition.
-/
import Derived.Test.YtojkebnjohanaaaHeadG
import Derived.Test.YtojkebnjohanaaaPutO
namespace Go.Proofs.Ytojkebnjohanaaa.headOdd
open Go.ChangeShapes Go.WideShapes Go.ChangeAt Go.RowKit
set_option linter.unusedVariables false
set_option linter.unusedSimpArgs false

theorem see_one (ws : List Nat) (off v x : Nat) : txSee ws [(off, v)] x = if off = x then v else getW ws x := by
  unfold txSee txGet
  by_cases e : off = x
  · rw [if_pos e, if_pos e]; rfl
  · rw [if_neg e, if_neg e]; rfl
theorem see_two (ws : List Nat) (a b v x : Nat) : txSee ws [(a, v), (b, v)] x = if a = x then v else if b = x then v else getW ws x := by
  unfold txSee txGet
  by_cases e : a = x
  · rw [if_pos e, if_pos e]; rfl
  · rw [if_neg e, if_neg e]
    unfold txGet
    by_cases e2 : b = x
    · rw [if_pos e2, if_pos e2]; rfl
    · rw [if_neg e2, if_neg e2]; rfl
section
variable {n v : Nat}
theorem odd0 (h : fitsP n 4800) : chkN (fmtW 600 n) [(0, v)] = if v = 7161130718081542961 then 0 else 12 := by
  have e : chkP (fmtW 600 n) [(0, v)] ↔ v = 7161130718081542961 := by
    unfold chkP
    rw [see_one, see_one, see_one, see_one, if_neg (by decide), if_pos rfl, if_neg (by decide), if_neg (by decide), fmt48_8 h, fmt48_16 h, fmt48_40 h, fmtW_len]
    exact ⟨fun hh => hh.2.1, fun hh => ⟨h, hh, rfl, rfl⟩⟩
  unfold chkN
  by_cases hv : v = 7161130718081542961
  · rw [if_pos hv, if_pos (e.2 hv)]
  · rw [if_neg hv, if_neg (fun hh => hv (e.1 hh))]
theorem odd1 (h : fitsP n 4800) : chkN (fmtW 600 n) [(8, v)] = if v = 1 then 0 else 12 := by
  have e : chkP (fmtW 600 n) [(8, v)] ↔ v = 1 := by
    unfold chkP
    rw [see_one, see_one, see_one, see_one, if_neg (by decide), if_neg (by decide), if_pos rfl, if_neg (by decide), fmt48_0 h, fmt48_16 h, fmt48_40 h, fmtW_len]
    exact ⟨fun hh => hh.2.2.1, fun hh => ⟨h, rfl, hh, rfl⟩⟩
  unfold chkN
  by_cases hv : v = 1
  · rw [if_pos hv, if_pos (e.2 hv)]
  · rw [if_neg hv, if_neg (fun hh => hv (e.1 hh))]
theorem odd2 (h : fitsP n 4800) (hv : v < 18446744073709551616) : chkN (fmtW 600 n) [(16, v)] = if v = n then 0 else 12 := by
  have hn : n < 18446744073709551616 := by have := h.2.2; omega
  have e : chkP (fmtW 600 n) [(16, v)] ↔ v = n := by
    unfold chkP
    rw [see_one, see_one, see_one, see_one, if_pos rfl, if_neg (by decide), if_neg (by decide), if_neg (by decide), fmt48_0 h, fmt48_8 h, fmt48_40 h, fmtW_len]
    exact ⟨fun hh => (sumN_inj hn hv hh.2.2.2).symm, fun hh => by rw [hh]; exact ⟨h, rfl, rfl, rfl⟩⟩
  unfold chkN
  by_cases hv : v = n
  · rw [if_pos hv, if_pos (e.2 hv)]
  · rw [if_neg hv, if_neg (fun hh => hv (e.1 hh))]
theorem odd3 (h : fitsP n 4800) : chkN (fmtW 600 n) [(40, v)] = if v = sumN n then 0 else 12 := by
  have e : chkP (fmtW 600 n) [(40, v)] ↔ v = sumN n := by
    unfold chkP
    rw [see_one, see_one, see_one, see_one, if_neg (by decide), if_neg (by decide), if_neg (by decide), if_pos rfl, fmt48_0 h, fmt48_8 h, fmt48_16 h, fmtW_len]
    exact ⟨fun hh => hh.2.2.2, fun hh => ⟨h, rfl, rfl, hh⟩⟩
  unfold chkN
  by_cases hv : v = sumN n
  · rw [if_pos hv, if_pos (e.2 hv)]
  · rw [if_neg hv, if_neg (fun hh => hv (e.1 hh))]
theorem even (h : fitsP n 4800) : chkN (fmtW 600 n) [(24, v), (32, v)] = 0 := by
  refine if_pos ?_
  unfold chkP
  rw [see_two, see_two, see_two, see_two, if_neg (by decide), if_neg (by decide), if_neg (by decide), if_neg (by decide), if_neg (by decide), if_neg (by decide), if_neg (by decide), if_neg (by decide), fmt48_0 h, fmt48_8 h, fmt48_16 h, fmt48_40 h, fmtW_len]
  exact ⟨h, rfl, rfl, rfl⟩
end
theorem core_no (n a v : Nat) (h : ¬ fitsP n 4800) (w : World) :
    Calls Try.prog 6 #[.int .u64 n, .int .u8 a, .int .u64 v] w fun e w' => e = .returned (.bool true) ∧ w.grownBy w' none := by
  have hf : ∀ w, Calls Try.prog 17 #[.int .u64 n, .int .u64 4800] w _ := fun w => rfits_any n 4800 w
  rw [decide_eq_false h] at hf
  go_enter Try.func6, Try.ntmps6
  go_wp2_with (first | (go_at_call 9; ((with_reducible refine (awake4 _).mono ?_); rintro e w1 ⟨rfl, hg1⟩)) | (go_at_call 10; ((with_reducible refine (new48 _).mono ?_); rintro e w2 ⟨rfl, hg2, hs2⟩)) | (go_at_call 17; ((with_reducible refine (hf _).mono ?_); rintro e w3 ⟨rfl, rfl⟩)))
  go_ret
  exact ⟨rfl, grown_trans hg1 hg2⟩
/-- all that the four words' walks lean on -/
theorem core (ws : List Nat) (hlen : ws.length = 600) (n : Nat) (hf : fitsP n 4800) (hfm : ∀ (w : World) (B D : Nat) (hs : IsSeg w B D (List.replicate 600 0)), Calls Try.prog 11 #[.pointer (some ⟨B, 0, none⟩), .int .u64 n] w fun e w' => e = .returned (.int .i64 0) ∧ w.grownBy w' (some D) ∧ IsSeg w' B D ws)
    (v x : Nat) (hv : v < 18446744073709551616) (hev : chkN ws [(24, v), (32, v)] = 0) (a : Nat) (ha : a < 256) (off : Nat) (hx : getW ws off = x) (ho : off % 8 = 0) (ho2 : off < 48) (hck : chkN ws [(off, v)] = if v = x then 0 else 12)
    (hat : (a % 4 = 0 ∧ off = 0) ∨ (a % 4 = 1 ∧ off = 8) ∨ (a % 4 = 2 ∧ off = 16) ∨ (a % 4 = 3 ∧ off = 40)) (w : World) :
    Calls Try.prog 6 #[.int .u64 n, .int .u8 a, .int .u64 v] w fun e w' => e = .returned (.bool true) ∧ w.grownBy w' none := by
  have hfi : ∀ w, Calls Try.prog 17 #[.int .u64 n, .int .u64 4800] w _ := fun w => rfits_any n 4800 w
  rw [decide_eq_true hf] at hfi
  have s24 : stands ws 24 := ⟨by decide, by omega⟩
  have s32 : stands ws 32 := ⟨by decide, by omega⟩
  have sof : stands ws off := ⟨ho, by omega⟩
  have hst := fun (w : World) (T M : Nat) (R : Option Nat) (B D : Nat) (ht : Thinks w T M R B D ws []) => txstore_any ht off v (by omega) hv
  have e1 : txStore ws [] off v = [(off, v)] := by unfold txStore; rw [if_pos sof]; rfl
  rw [e1] at hst
  have hu1 : ∀ (w : World) (T M : Nat) (R : Option Nat) (B D : Nat) (ht : Thinks w T M R B D ws []), Calls Try.prog 20 #[.pointer (some ⟨T, 0, none⟩), .int .u64 24, .int .u64 v] w _ := fun (w : World) (T M : Nat) (R : Option Nat) (B D : Nat) (ht : Thinks w T M R B D ws []) => txstore_any ht 24 v (by decide) hv
  have e2 : txStore ws [] 24 v = [(24, v)] := by unfold txStore; rw [if_pos s24]; rfl
  rw [e2] at hu1
  have hu2 : ∀ (w : World) (T M : Nat) (R : Option Nat) (B D : Nat) (ht : Thinks w T M R B D ws [(24, v)]), Calls Try.prog 20 #[.pointer (some ⟨T, 0, none⟩), .int .u64 32, .int .u64 v] w _ := fun (w : World) (T M : Nat) (R : Option Nat) (B D : Nat) (ht : Thinks w T M R B D ws [(24, v)]) => txstore_any ht 32 v (by decide) hv
  have e3 : txStore ws [(24, v)] 32 v = [(24, v), (32, v)] := by unfold txStore; rw [if_pos s32]; rfl
  rw [e3] at hu2
  have hld := fun (w : World) (T M : Nat) (R : Option Nat) (B D : Nat) (ht : Thinks w T M R B D ws []) => txload_any ht off (by omega)
  rw [show txSee ws [] off = x from hx] at hld
  have hc1 := fun (w : World) (T M : Nat) (R : Option Nat) (B D : Nat) (ht : Thinks w T M R B D ws [(off, v)]) => hcheck_any ht
  rw [hck] at hc1
  have hc2 := fun (w : World) (T M : Nat) (R : Option Nat) (B D : Nat) (ht : Thinks w T M R B D ws [(24, v), (32, v)]) => hcheck_any ht
  rw [hev] at hc2
  obtain ⟨cc, ec⟩ : ∃ cc, (if v = x then 0 else 12) = cc := ⟨_, rfl⟩
  rw [ec] at hc1
  have heq : (((cc : Nat) : Int) == 0) = ((v : Int) == (x : Int)) := by
    rw [← ec]
    by_cases e : v = x
    · rw [if_pos e, e]; simp
    · rw [if_neg e, beq_eq_false_iff_ne.2 (show (v : Int) ≠ (x : Int) by omega)]; rfl
  have hxw := hx
  clear e1 e2 e3 ec s24 s32 sof hck hev hx hxw hlen
  obtain ⟨oi, hoi⟩ : ∃ oi : Int, (off : Int) = oi := ⟨_, rfl⟩
  simp only [hoi] at hld hst
  rcases hat with ⟨ha4, ho4⟩ | ⟨ha4, ho4⟩ | ⟨ha4, ho4⟩ | ⟨ha4, ho4⟩
  · obtain rfl : oi = 0 := by omega
    have k4 : (a : Int) % 4 = 0 := by omega
    clear ha4 ho4 hoi
    go_enter Try.func6, Try.ntmps6
    go_wp2_with (first | (go_at_call 9; ((with_reducible refine (awake4 _).mono ?_); rintro e w1 ⟨rfl, hg1⟩)) | (go_at_call 10; ((with_reducible refine (new48 _).mono ?_); rintro e w2 ⟨rfl, hg2, hs2⟩)) | (go_at_call 17; ((with_reducible refine (hfi _).mono ?_); rintro e w3 ⟨rfl, rfl⟩)) | (go_at_call 11; ((with_reducible refine (hfm _ _ _ hs2).mono ?_); rintro e w4 ⟨rfl, hg4, hs4⟩)) | (go_at_call 19; ((with_reducible refine (txnew_yes hs4).mono ?_); rintro e w5 ⟨rfl, hg5, ht5⟩; have X5 := Txs.first hg1 hg2 hs2 hg4 hg5 ht5; have hg6 : w5.grownBy (w5.alloc (.cells #[.int .u64 0, .int .u64 8, .int .u64 16, .int .u64 40] 22)) none := World.grownBy_alloc _ _ _; have X6 := X5.later hg6)) | (go_at_call 24; ((with_reducible refine (hld _ _ _ _ _ _ X6.tx).mono ?_); rintro e w7 ⟨rfl, hg7⟩; have X7 := X6.later hg7)) | (go_at_call 20; ((with_reducible refine (hst _ _ _ _ _ _ X7.tx).mono ?_); rintro e w8 ⟨rfl, ht8⟩; obtain ⟨R8, X8, _⟩ := X7.step ht8)) | (go_at_call 19; ((with_reducible refine (txnew_yes X8.tx.seg).mono ?_); rintro e w9 ⟨rfl, hg9, ht9⟩; have Y9 := Beside.first X8 hg9 ht9)) | (go_at_call 20; ((with_reducible refine (hu1 _ _ _ _ _ _ Y9.u).mono ?_); rintro e w10 ⟨rfl, ht10⟩; obtain ⟨R10, Y10⟩ := Y9.step ht10)) | (go_at_call 20; ((with_reducible refine (hu2 _ _ _ _ _ _ Y10.u).mono ?_); rintro e w11 ⟨rfl, ht11⟩; obtain ⟨R11, Y11⟩ := Y10.step ht11)) | (go_at_call 21; ((with_reducible refine (hc1 _ _ _ _ _ _ Y11.t.tx).mono ?_); rintro e w12 ⟨rfl, hg12⟩; have Y12 := Y11.later hg12)) | (go_at_call 21; ((with_reducible refine (hc2 _ _ _ _ _ _ Y12.u).mono ?_); rintro e w13 ⟨rfl, hg13⟩)))
    go_ret
    exact ⟨ret_bool' (by simp), (Y12.later hg13).t.since⟩
  · obtain rfl : oi = 8 := by omega
    have k4 : (a : Int) % 4 = 1 := by omega
    clear ha4 ho4 hoi
    go_enter Try.func6, Try.ntmps6
    go_wp2_with (first | (go_at_call 9; ((with_reducible refine (awake4 _).mono ?_); rintro e w1 ⟨rfl, hg1⟩)) | (go_at_call 10; ((with_reducible refine (new48 _).mono ?_); rintro e w2 ⟨rfl, hg2, hs2⟩)) | (go_at_call 17; ((with_reducible refine (hfi _).mono ?_); rintro e w3 ⟨rfl, rfl⟩)) | (go_at_call 11; ((with_reducible refine (hfm _ _ _ hs2).mono ?_); rintro e w4 ⟨rfl, hg4, hs4⟩)) | (go_at_call 19; ((with_reducible refine (txnew_yes hs4).mono ?_); rintro e w5 ⟨rfl, hg5, ht5⟩; have X5 := Txs.first hg1 hg2 hs2 hg4 hg5 ht5; have hg6 : w5.grownBy (w5.alloc (.cells #[.int .u64 0, .int .u64 8, .int .u64 16, .int .u64 40] 22)) none := World.grownBy_alloc _ _ _; have X6 := X5.later hg6)) | (go_at_call 24; ((with_reducible refine (hld _ _ _ _ _ _ X6.tx).mono ?_); rintro e w7 ⟨rfl, hg7⟩; have X7 := X6.later hg7)) | (go_at_call 20; ((with_reducible refine (hst _ _ _ _ _ _ X7.tx).mono ?_); rintro e w8 ⟨rfl, ht8⟩; obtain ⟨R8, X8, _⟩ := X7.step ht8)) | (go_at_call 19; ((with_reducible refine (txnew_yes X8.tx.seg).mono ?_); rintro e w9 ⟨rfl, hg9, ht9⟩; have Y9 := Beside.first X8 hg9 ht9)) | (go_at_call 20; ((with_reducible refine (hu1 _ _ _ _ _ _ Y9.u).mono ?_); rintro e w10 ⟨rfl, ht10⟩; obtain ⟨R10, Y10⟩ := Y9.step ht10)) | (go_at_call 20; ((with_reducible refine (hu2 _ _ _ _ _ _ Y10.u).mono ?_); rintro e w11 ⟨rfl, ht11⟩; obtain ⟨R11, Y11⟩ := Y10.step ht11)) | (go_at_call 21; ((with_reducible refine (hc1 _ _ _ _ _ _ Y11.t.tx).mono ?_); rintro e w12 ⟨rfl, hg12⟩; have Y12 := Y11.later hg12)) | (go_at_call 21; ((with_reducible refine (hc2 _ _ _ _ _ _ Y12.u).mono ?_); rintro e w13 ⟨rfl, hg13⟩)))
    go_ret
    exact ⟨ret_bool' (by simp), (Y12.later hg13).t.since⟩
  · obtain rfl : oi = 16 := by omega
    have k4 : (a : Int) % 4 = 2 := by omega
    clear ha4 ho4 hoi
    go_enter Try.func6, Try.ntmps6
    go_wp2_with (first | (go_at_call 9; ((with_reducible refine (awake4 _).mono ?_); rintro e w1 ⟨rfl, hg1⟩)) | (go_at_call 10; ((with_reducible refine (new48 _).mono ?_); rintro e w2 ⟨rfl, hg2, hs2⟩)) | (go_at_call 17; ((with_reducible refine (hfi _).mono ?_); rintro e w3 ⟨rfl, rfl⟩)) | (go_at_call 11; ((with_reducible refine (hfm _ _ _ hs2).mono ?_); rintro e w4 ⟨rfl, hg4, hs4⟩)) | (go_at_call 19; ((with_reducible refine (txnew_yes hs4).mono ?_); rintro e w5 ⟨rfl, hg5, ht5⟩; have X5 := Txs.first hg1 hg2 hs2 hg4 hg5 ht5; have hg6 : w5.grownBy (w5.alloc (.cells #[.int .u64 0, .int .u64 8, .int .u64 16, .int .u64 40] 22)) none := World.grownBy_alloc _ _ _; have X6 := X5.later hg6)) | (go_at_call 24; ((with_reducible refine (hld _ _ _ _ _ _ X6.tx).mono ?_); rintro e w7 ⟨rfl, hg7⟩; have X7 := X6.later hg7)) | (go_at_call 20; ((with_reducible refine (hst _ _ _ _ _ _ X7.tx).mono ?_); rintro e w8 ⟨rfl, ht8⟩; obtain ⟨R8, X8, _⟩ := X7.step ht8)) | (go_at_call 19; ((with_reducible refine (txnew_yes X8.tx.seg).mono ?_); rintro e w9 ⟨rfl, hg9, ht9⟩; have Y9 := Beside.first X8 hg9 ht9)) | (go_at_call 20; ((with_reducible refine (hu1 _ _ _ _ _ _ Y9.u).mono ?_); rintro e w10 ⟨rfl, ht10⟩; obtain ⟨R10, Y10⟩ := Y9.step ht10)) | (go_at_call 20; ((with_reducible refine (hu2 _ _ _ _ _ _ Y10.u).mono ?_); rintro e w11 ⟨rfl, ht11⟩; obtain ⟨R11, Y11⟩ := Y10.step ht11)) | (go_at_call 21; ((with_reducible refine (hc1 _ _ _ _ _ _ Y11.t.tx).mono ?_); rintro e w12 ⟨rfl, hg12⟩; have Y12 := Y11.later hg12)) | (go_at_call 21; ((with_reducible refine (hc2 _ _ _ _ _ _ Y12.u).mono ?_); rintro e w13 ⟨rfl, hg13⟩)))
    go_ret
    exact ⟨ret_bool' (by simp), (Y12.later hg13).t.since⟩
  · obtain rfl : oi = 40 := by omega
    have k4 : (a : Int) % 4 = 3 := by omega
    clear ha4 ho4 hoi
    go_enter Try.func6, Try.ntmps6
    go_wp2_with (first | (go_at_call 9; ((with_reducible refine (awake4 _).mono ?_); rintro e w1 ⟨rfl, hg1⟩)) | (go_at_call 10; ((with_reducible refine (new48 _).mono ?_); rintro e w2 ⟨rfl, hg2, hs2⟩)) | (go_at_call 17; ((with_reducible refine (hfi _).mono ?_); rintro e w3 ⟨rfl, rfl⟩)) | (go_at_call 11; ((with_reducible refine (hfm _ _ _ hs2).mono ?_); rintro e w4 ⟨rfl, hg4, hs4⟩)) | (go_at_call 19; ((with_reducible refine (txnew_yes hs4).mono ?_); rintro e w5 ⟨rfl, hg5, ht5⟩; have X5 := Txs.first hg1 hg2 hs2 hg4 hg5 ht5; have hg6 : w5.grownBy (w5.alloc (.cells #[.int .u64 0, .int .u64 8, .int .u64 16, .int .u64 40] 22)) none := World.grownBy_alloc _ _ _; have X6 := X5.later hg6)) | (go_at_call 24; ((with_reducible refine (hld _ _ _ _ _ _ X6.tx).mono ?_); rintro e w7 ⟨rfl, hg7⟩; have X7 := X6.later hg7)) | (go_at_call 20; ((with_reducible refine (hst _ _ _ _ _ _ X7.tx).mono ?_); rintro e w8 ⟨rfl, ht8⟩; obtain ⟨R8, X8, _⟩ := X7.step ht8)) | (go_at_call 19; ((with_reducible refine (txnew_yes X8.tx.seg).mono ?_); rintro e w9 ⟨rfl, hg9, ht9⟩; have Y9 := Beside.first X8 hg9 ht9)) | (go_at_call 20; ((with_reducible refine (hu1 _ _ _ _ _ _ Y9.u).mono ?_); rintro e w10 ⟨rfl, ht10⟩; obtain ⟨R10, Y10⟩ := Y9.step ht10)) | (go_at_call 20; ((with_reducible refine (hu2 _ _ _ _ _ _ Y10.u).mono ?_); rintro e w11 ⟨rfl, ht11⟩; obtain ⟨R11, Y11⟩ := Y10.step ht11)) | (go_at_call 21; ((with_reducible refine (hc1 _ _ _ _ _ _ Y11.t.tx).mono ?_); rintro e w12 ⟨rfl, hg12⟩; have Y12 := Y11.later hg12)) | (go_at_call 21; ((with_reducible refine (hc2 _ _ _ _ _ _ Y12.u).mono ?_); rintro e w13 ⟨rfl, hg13⟩)))
    go_ret
    exact ⟨ret_bool' (by simp), (Y12.later hg13).t.since⟩
theorem walk (a : Int) (wa : (Lit.int .u64 a).wf = true) (b : Int) (wb : (Lit.int .u8 b).wf = true) (c : Int) (wc : (Lit.int .u64 c).wf = true) (w : World) :
    Calls Try.prog 6 #[.int .u64 a, .int .u8 b, .int .u64 c] w fun e w' => e = .returned (.bool true) ∧ Below w.heap.size w w' := by
  have b0 := bounds_u64 wa
  have b1 := bounds_u8 wb
  have b2 := bounds_u64 wc
  obtain ⟨n, rfl⟩ := Int.eq_ofNat_of_zero_le b0.1
  obtain ⟨k, rfl⟩ := Int.eq_ofNat_of_zero_le b1.1
  obtain ⟨v, rfl⟩ := Int.eq_ofNat_of_zero_le b2.1
  have hk : k < 256 := by omega
  have hv : v < 18446744073709551616 := by omega
  by_cases h : fitsP n 4800
  · have hfm := fun (w : World) (B D : Nat) (hs : IsSeg w B D (List.replicate 600 0)) => format48 hs h
    have core2 : Calls Try.prog 6 #[.int .u64 n, .int .u8 k, .int .u64 v] w fun e w' => e = .returned (.bool true) ∧ w.grownBy w' none := by
      rcases (show k % 4 = 0 ∨ k % 4 = 1 ∨ k % 4 = 2 ∨ k % 4 = 3 by omega) with e | e | e | e
      · exact core _ (fmtW_len _ _) n h hfm v _ hv (even h) k hk 0 (fmt48_0 h) (by decide) (by decide) (odd0 h) (.inl ⟨e, rfl⟩) w
      · exact core _ (fmtW_len _ _) n h hfm v _ hv (even h) k hk 8 (fmt48_8 h) (by decide) (by decide) (odd1 h) (.inr (.inl ⟨e, rfl⟩)) w
      · exact core _ (fmtW_len _ _) n h hfm v _ hv (even h) k hk 16 (fmt48_16 h) (by decide) (by decide) (odd2 h hv) (.inr (.inr (.inl ⟨e, rfl⟩))) w
      · exact core _ (fmtW_len _ _) n h hfm v _ hv (even h) k hk 40 (fmt48_40 h) (by decide) (by decide) (odd3 h) (.inr (.inr (.inr ⟨e, rfl⟩))) w
    exact core2.mono fun e w' ⟨h1, h2⟩ => ⟨h1, grown_below h2⟩
  · exact (core_no n k v h w).mono fun e w' ⟨h1, h2⟩ => ⟨h1, grown_below h2⟩

theorem laidOut : laidOutB Try.prog = true := by kernel_rfl
/-! ### The row's step: the guide's frame -/
theorem own : ownKnob Try.prog.godebug = none := by kernel_rfl
set_option maxRecDepth 100000 in
theorem lifted (os : Os) (started : os.Started) (H : Type) (enc : TypeId × Value → H) :
    ReturnsInHanded {} Try.checked os 6 .any (Rows.headOddSpec.pre6 enc Try.prog Try.f6 Rows.headOddRow.domain false) (Rows.headOddSpec.post enc Try.prog Try.f6 false true false false) := by
  refine returnsInHanded_of_change (C := Try.checked) own started (by kernel_rfl) Try.func6
    (ChangeSpec.witness6 (enc := enc) (C := Try.checked) false ⟨#[], #[.int .u64 0, .int .u8 0, .int .u64 0], []⟩ 8 (by kernel_rfl) (by kernel_rfl) (by kernel_rfl) (by kernel_rfl)) ?_
  intro W base args ds gs before hval0 hW hcnd _
  have hval : ∀ (j : Nat) t v, Try.f6.params[j]? = some t → args[j]? = some v → Value.okWide Try.prog W .any base t v := hval0
  have hW' := hW
  obtain ⟨p, q, hA0, hV, rfl, hfz, hnd⟩ := hW
  have hA : DataW.TrodAll enc Try.prog W 0 (fun _ => true) true Try.f6.params.toList args.toList ds p := hA0
  rw [Try.params6] at hA hval
  obtain ⟨v0, vs0, d0, ds0, p0, q0, hargs, rfl, rfl, h0, r0⟩ := trodAll_cons hA
  obtain ⟨v1, vs1, d1, ds1, p1, q1, rfl, rfl, rfl, h1, r1⟩ := trodAll_cons r0
  obtain ⟨v2, vs2, d2, ds2, p2, q2, rfl, rfl, rfl, h2, r2⟩ := trodAll_cons r1
  obtain ⟨rfl, rfl, rfl⟩ := trodAll_nil r2
  obtain rfl : args = #[v0, v1, v2] := by cases args; simp_all
  obtain ⟨rfl, rfl⟩ := trodVars_none hV
  obtain ⟨a0, rfl, rfl, rfl, w0⟩ := open_int Try.underlying22 (hval 0 22 v0 rfl rfl) h0
  obtain ⟨a1, rfl, rfl, rfl, w1⟩ := open_int Try.underlying5 (hval 1 5 v1 rfl rfl) h1
  obtain ⟨a2, rfl, rfl, rfl, w2⟩ := open_int Try.underlying22 (hval 2 22 v2 rfl rfl) h2
  clear hA0 hval0
  refine (walk a0 w0 a1 w1 a2 w2 W).mono fun e W' ⟨he, bel⟩ => ?_
  subst he
  exact ⟨_, rfl, _, _, _, [], _, [], hW', trodAll_mk1 (shut_bool Try.underlying4 _), (trodAll_cons_mk (shut_int Try.underlying22 w0) (trodAll_cons_mk (shut_int Try.underlying5 w1) (trodAll_cons_mk (shut_int Try.underlying22 w2) trodAll_mk0))), rfl, bel.frame _, fun h => by cases h⟩

theorem over : Rows.headOddRow.holds Try.pinned (OpenSpec.ofChange Rows.headOddSpec) :=
  OpenClaim.holds_of_wide 6 Try.f6 rfl rfl rfl rfl rfl rfl rfl ⟨rfl, rfl, rfl, rfl, rfl⟩ rfl rfl rfl rfl rfl (by kernel_rfl) Try.func6 (by kernel_rfl)
    (of_decide_eq_true (by kernel_rfl)) (by unfold Func.isWrapper; first | (rw [if_pos (by decide +kernel)]; kernel_rfl) | (rw [if_neg (by decide +kernel)]; exact ⟨rfl, rfl⟩))
    (fun os started H enc _ => lifted os started H enc)

theorem proved : Rows.HeadOddSaid :=
  over
#print axioms proved


end Go.Proofs.Ytojkebnjohanaaa.headOdd
