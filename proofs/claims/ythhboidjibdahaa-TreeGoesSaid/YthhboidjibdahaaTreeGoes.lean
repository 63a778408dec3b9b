/-
  In whatever turn blocks go, what is left is the tree of what is left; who isn't in it doesn't go. The statement TreeGoes, for every list of pieces and every turn; no condition.
-/
import Derived.Test.YthhboidjibdahaaTreeAx
import Derived.Test.YthhboidjibdahaaTreeTa
import Derived.BigQuiet
import Derived.Test.YthhboidjibdahaaArrO
namespace Go.Proofs.Ythhboidjibdahaa.treeGoes
open Go.ChangeShapes Go.WideShapes Go.ChangeAt Go.RowKit
set_option linter.unusedVariables false
set_option linter.unusedSimpArgs false

set_option maxRecDepth 100000 in
set_option maxHeartbeats 8000000 in
theorem core {la : Option Addr} {n c : Nat} {A B C : Nat → Nat} (hc : n ≤ c) (hn : n ≤ maxLen) {w : World} (hp : PiecesAt w la n A B C) (x0 x1 : Nat) (h0 : x0 < 256) (h1 : x1 < 256) :
    Calls Try.prog 3 #[.slice la n c, .agg #[.int .u8 x0, .int .u8 x1]] w fun e w' => e = .returned (.bool true) ∧ w.grownBy w' none := by
  have hla := fun (w1 : World) (hg : w.grownBy w1 none) => laid7_from hp hc hn hg
  have e0 : IntKind.i64.wrap ((x0 : Int)) = (x0 : Nat) := by rw [IntKind.wrap_i64]; omega
  have e1 : IntKind.i64.wrap ((x1 : Int)) = (x1 : Nat) := by rw [IntKind.wrap_i64]; omega
  go_enter Try.func3, Try.ntmps3
  go_wp2_with (first
    | (go_at_call 6; ((with_reducible refine (awake7 _).mono ?_); rintro e w1 ⟨rfl, hg1⟩))
    | (go_at_call 7; ((with_reducible refine (hla _ (grown_trans (World.grownBy_alloc _ _ _) hg1)).mono ?_); rintro e w2 ⟨ws, T, R, wa, wn, wc, pa, pn, pc, F, fa, fc, l, rfl, HL, hg2⟩; have ga := World.grownBy_alloc w2 (.cells #[.slice wa wn wc, .slice pa pn pc] 29) none; have b2 := two_held (two_held (heap_alloc_new' w (.cells #[.int .u8 (x0 : Nat), .int .u8 (x1 : Nat)] 23)) hg1) (grown_trans hg2 ga); obtain ⟨z, ez⟩ : ∃ z, (fun x => tS (txSee ws l x)) = z := ⟨_, rfl⟩; have X2 := HL.tree.later ga; rw [ez] at X2; have K2 := HL.free.later ga; have HF := Lib.hid HL.few; have HF' : F.length ≤ 1000000 := (by have := HL.few; omega); clear HL ez))
    | (go_at_call 8; go_must ((with_reducible refine (tw_build X2 (K2.lie) HF').mono ?_); rintro e w3 ⟨rfl, R3, X3, G3⟩; have K3 := G3.row K2; have b3 := G3.far b2 (by decide) (by decide); have c0 : w3.cell? ⟨w.heap.size, 0, none⟩ = some (.int .u8 (x0 : Nat)) := (by simp [World.cell?, b3]); have c1 : w3.cell? ⟨w.heap.size, 1, none⟩ = some (.int .u8 (x1 : Nat)) := (by simp [World.cell?, b3])))
    | (go_at_call 9; ((with_reducible refine (rturned_any (K3.lie) (by have := HF.out; omega) x0 x1 (by omega) (by omega)).mono ?_); rintro e w4 ⟨vk, K, rfl, hok, hpk, hg4⟩)))
  have K4 := ((KW.new X3 hok (Nat.le_refl _)).mono (Nat.zero_le _))
  have X4 := (X3.later hg4).perm hpk.symm
  have hKl : K.length ≤ 4800 := by rw [hpk.length_eq]; exact HF.out
  obtain ⟨ka, kc, rfl⟩ := hok.slice
  obtain ⟨m, hm⟩ : ∃ m, K.length = m := ⟨_, rfl⟩
  have HM := Lib.hid hm
  rw [hm] at K4 hKl ⊢
  have hcap := K4.cap
  clear hok hg4 hpk X3 K3 c0 c1 b3 G3 K2 X2 b2 hg2 hg1 ga hm hla hn hp HF HF'
  go_loopw [10] (fun i wr => ∃ k R', k ≤ m ∧ i = .int .i64 (k : Nat) ∧ TW w wr T R' ws z F (K.drop k) ∧ KW wr R' 0 (.slice ka m kc) K) (fun i _ => m - (intOf i).toNat)
  case atStart => exact ⟨0, R3, Nat.zero_le _, rfl, X4, K4⟩
  case round =>
    obtain ⟨k, R', hk, rfl, X, KK⟩ := hrel
    clear X4 K4
    rcases Nat.lt_or_ge k m with h1 | h1
    · obtain ⟨b, off, rfl, hb, hcs⟩ := KK.lie.cells (by rw [HM.out]; omega)
      obtain ⟨y, hy⟩ : ∃ y, K.getD k 0 = y := ⟨_, rfl⟩
      have hcy : ∀ {wq : World} {Rq : Option Nat}, KW wq Rq 0 (.slice (some ⟨b, off, none⟩) m kc) K → wq.cell? ⟨b, off + k, none⟩ = some (.int .u64 (y : Nat)) := fun {wq Rq} h => by
        obtain ⟨b', off', e, _, h2⟩ := h.lie.cells (by rw [HM.out]; omega)
        cases e
        rw [h2 k (by rw [HM.out]; omega), hy]
      have c0 := hcy KK
      have HC := Lib.hid (fun (wq : World) (Rq : Option Nat) (h : KW wq Rq 0 (.slice (some ⟨b, off, none⟩) m kc) K) => hcy h)
      rw [drop_get (by rw [HM.out]; exact h1) hy] at X
      have hnd := X.nodup
      have hyn := (List.nodup_cons.1 hnd).1
      have hyF := X.sub y (by simp)
      have hfil : ((y :: K.drop (k + 1)).filter fun a => decide (a ≠ y)).Perm (K.drop (k + 1)) := by
        rw [List.filter_cons]
        simp only [ne_eq, not_true_eq_false, decide_false, Bool.false_eq_true, if_false]
        rw [List.filter_eq_self.2 (by intro a ha; rw [decide_eq_true_eq]; intro e; exact hyn (e ▸ ha))]
      have hde := fun (w1 : World) (R1 : Option Nat) (h : TW w w1 T R1 ws z F (y :: K.drop (k + 1))) => tw_delete h hyF (List.mem_cons_self ..) hfil
      have hdn := fun (w1 : World) (R1 : Option Nat) (h : TW w w1 T R1 ws z F (K.drop (k + 1))) => tw_stays h hyF hyn
      have hck : ∀ (w1 : World) (R1 : Option Nat) (a : Option Addr) (c : Nat) (hm : WordsAt w1 a (K.drop (k + 1))) (h : TW w w1 T R1 ws z F (K.drop (k + 1))), Calls Try.prog 11 #[.pointer (some ⟨T, 0, none⟩), .slice a (m - (k + 1)) c] w1 fun e w' => e = .returned (.bool true) ∧ w1.grownBy w' none := fun w1 R1 a c hm h => tw_check h (List.Perm.refl _) hm (by rw [List.length_drop, HM.out]) (by omega)
      have hdr := fun (w1 : World) (R1 : Option Nat) (h : KW w1 R1 0 (.slice (some ⟨b, off, none⟩) m kc) K) => drop_at h.lie HM.out h1 hcap
      have HD := Lib.hid hdr
      have hk1 : (k : Int) < (m : Int) := by omega
      have hk2 : (k : Int) + 1 ≤ (m : Int) := by omega
      have ewk : IntKind.i64.wrap ((k : Int) + 1) = (k : Int) + 1 := by rw [IntKind.wrap_i64]; omega
      clear hcs hcy hdr hy hnd
      go_wp2_with (first
        | (go_at_call 10; ((with_reducible refine (hde _ _ X).mono ?_); rintro e w5 ⟨rfl, R5, X5, G5⟩; have K5 := G5.row KK; have c5 := HC.out _ _ K5))
        | (go_at_call 10; ((with_reducible refine (hdn _ _ X6).mono ?_); rintro e w7 ⟨rfl, hg7⟩; have X7 := X6.later hg7; have K7 := K6.later hg7))
        | (go_at_call 11; ((with_reducible refine (hck _ _ _ _ (HD.out _ _ K7) X7).mono ?_); rintro e w8 ⟨rfl, hg8⟩; have X8 := X7.later hg8; have K8 := K7.later hg8))
        | (go_at_call 11; ((with_reducible refine (hck _ _ _ _ (HD.out _ _ K5) X5).mono ?_); rintro e w6 ⟨rfl, hg6⟩; have X6 := X5.later hg6; have K6 := K5.later hg6; have c6 := HC.out _ _ K6)))
      go_roundw
      case rel => exact ⟨k + 1, R5, by omega, by go_num, X8, K8⟩
      case measure => simp [intOf]; omega
    · obtain rfl : k = m := by omega
      rw [List.drop_eq_nil_of_le (Nat.le_of_eq HM.out)] at X
      have hro := fun (w1 : World) (R1 : Option Nat) (h : TW w w1 T R1 ws z F []) => tw_root_nil h
      have hal : ∀ (w1 : World) (R1 : Option Nat) (h : TW w w1 T R1 ws z F []), Calls Try.prog 13 #[.pointer (some ⟨T, 0, none⟩)] w1 fun e w' => ∃ a c, e = .returned (.slice a 0 c) ∧ w1.grownBy w' none := fun w1 R1 h => (tw_all h).mono fun e w' ⟨v, h1, h2, h3⟩ => by
        obtain ⟨a, c, rfl⟩ := h2.slice
        exact ⟨a, c, h1, h3⟩
      go_wp2_with (first
        | (go_at_call 12; ((with_reducible refine (hro _ _ X).mono ?_); rintro e w5 ⟨rfl, hg5⟩; have X5 := X.later hg5))
        | (go_at_call 13; ((with_reducible refine (hal _ _ X5).mono ?_); rintro e w6 ⟨a6, c6, rfl, hg6⟩; have X6 := X5.later hg6)))
      go_ret
      exact ⟨rfl, X6.since⟩
theorem walk {la : Option Addr} {n c : Nat} {A B C : Nat → Nat} (hc : n ≤ c) (hn : n ≤ maxLen) {w : World} (hp : PiecesAt w la n A B C) {x0 x1 : Nat} (h0 : x0 < 256) (h1 : x1 < 256) :
    Calls Try.prog 3 #[.slice la n c, .agg #[.int .u8 x0, .int .u8 x1]] w fun e w' => e = .returned (.bool true) ∧ Below w.heap.size w w' :=
  (core hc hn hp x0 x1 h0 h1).mono fun e w' ⟨h1, h2⟩ => ⟨h1, grown_below h2⟩
theorem laidOut : laidOutB Try.prog = true := by kernel_rfl
/-! ### The row's step: the guide's frame -/
theorem own : ownKnob Try.prog.godebug = none := by kernel_rfl
set_option maxRecDepth 100000 in
theorem lifted (os : Os) (started : os.Started) (H : Type) (enc : TypeId × Value → H) :
    ReturnsInHanded {} Try.checked os 3 .any (Rows.treeGoesSpec.pre6 enc Try.prog Try.f3 Rows.treeGoesRow.domain false) (Rows.treeGoesSpec.post enc Try.prog Try.f3 false true false false) := by
  refine returnsInHanded_of_change (C := Try.checked) own started (by kernel_rfl) Try.func3
    (ChangeSpec.witness6 (enc := enc) (C := Try.checked) false ⟨#[], #[.slice none 0 0, .agg #[.int .u8 0, .int .u8 0]], []⟩ 8 (by kernel_rfl) (by kernel_rfl) (by kernel_rfl) (by kernel_rfl)) ?_
  intro W base args ds gs before hval0 hW hcnd _
  have hval : ∀ (j : Nat) t v, Try.f3.params[j]? = some t → args[j]? = some v → Value.okWide Try.prog W .any base t v := hval0
  have hW' := hW
  obtain ⟨p, q, hA0, hV, rfl, hfz, hnd⟩ := hW
  have hA : DataW.TrodAll enc Try.prog W 0 (fun _ => true) true Try.f3.params.toList args.toList ds p := hA0
  rw [Try.params3] at hA hval
  obtain ⟨v0, vs0, d0, ds0, p0, q0, hargs, rfl, rfl, h0, r0⟩ := trodAll_cons hA
  obtain ⟨v1, vs1, d1, ds1, p1, q1, rfl, rfl, rfl, h1, r1⟩ := trodAll_cons r0
  obtain ⟨rfl, rfl, rfl⟩ := trodAll_nil r1
  obtain rfl : args = #[v0, v1] := by cases args; simp_all
  obtain ⟨rfl, rfl⟩ := trodVars_none hV
  have lt0 : ∀ x ∈ p0, x.block < W.heap.size := by obtain ⟨m, hm⟩ := h0; exact DataW.trod_lt m _ _ _ hm
  obtain ⟨la0, n0, c0, A0, B0, C0, rfl, hc0, hn0, hp0⟩ := open_pieces (hval 0 22 v0 rfl rfl) h0
  have lt1 : ∀ x ∈ p1, x.block < W.heap.size := by obtain ⟨m, hm⟩ := h1; exact DataW.trod_lt m _ _ _ hm
  obtain ⟨x1, y1, rfl, hx1, hy1⟩ := open_byte2 (hval 1 23 v1 rfl rfl) h1
  clear hA0 hval0
  refine (walk hc0 hn0 hp0 hx1 hy1).mono fun e W' ⟨he, bel⟩ => ?_
  subst he
  exact ⟨_, rfl, _, _, _, [], _, [], hW', trodAll_mk1 (shut_bool Try.underlying4 _), (trodAll_cons_mk (Below.trod laidOut (by kernel_rfl) (of_decide_eq_true (by kernel_rfl)) h0 bel lt0) (trodAll_cons_mk (Below.trod laidOut (by kernel_rfl) (of_decide_eq_true (by kernel_rfl)) h1 bel lt1) trodAll_mk0)), rfl, bel.frame _, fun h => by cases h⟩

theorem over : Rows.treeGoesRow.holds Try.pinned (OpenSpec.ofChange Rows.treeGoesSpec) :=
  OpenClaim.holds_of_wide 3 Try.f3 rfl rfl rfl rfl rfl rfl rfl ⟨rfl, rfl, rfl, rfl, rfl⟩ rfl rfl rfl rfl rfl (by kernel_rfl) Try.func3 (by kernel_rfl)
    (of_decide_eq_true (by kernel_rfl)) (by unfold Func.isWrapper; first | (rw [if_pos (by decide +kernel)]; kernel_rfl) | (rw [if_neg (by decide +kernel)]; exact ⟨rfl, rfl⟩))
    (fun os started H enc _ => lifted os started H enc)

theorem proved : Rows.TreeGoesSaid :=
  over
#print axioms proved


end Go.Proofs.Ythhboidjibdahaa.treeGoes
