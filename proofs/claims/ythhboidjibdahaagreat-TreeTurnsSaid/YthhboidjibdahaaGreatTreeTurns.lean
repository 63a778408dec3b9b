/-
  In whatever turn blocks come into a tree, it is the same, each time; all are told, by their keys. The statement TreeTurns, for every list of pieces and every turn; no condition.
-/
import Derived.Test.YthhboidjibdahaaGreatTreeAx
import Derived.Test.YthhboidjibdahaaGreatTreeTa
import Derived.Test.YthhboidjibdahaaGreatTreeUa
import Derived.Test.YthhboidjibdahaaGreatLSeg
import Derived.BigQuiet
import Derived.Test.YthhboidjibdahaaGreatArrO
namespace Go.Proofs.YthhboidjibdahaaGreat.treeTurns
open Go.ChangeShapes Go.WideShapes Go.ChangeAt Go.RowKit
set_option linter.unusedVariables false
set_option linter.unusedSimpArgs false

set_option maxRecDepth 100000 in
set_option maxHeartbeats 8000000 in
theorem core {la : Option Addr} {n c : Nat} {A B C : Nat → Nat} (hc : n ≤ c) (hn : n ≤ maxLen) {w : World} (hp : PiecesAt w la n A B C) (x0 x1 : Nat) (h0 : x0 < 256) (h1 : x1 < 256) :
    Calls Tryz.prog 3 #[.slice la n c, .agg #[.int .u8 x0, .int .u8 x1]] w fun e w' => e = .returned (.bool true) ∧ w.grownBy w' none := by
  have hla := fun (w1 : World) (hg : w.grownBy w1 none) => laid7_from hp hc hn hg
  have e0 : IntKind.i64.wrap ((x0 : Int)) = (x0 : Nat) := by rw [IntKind.wrap_i64]; omega
  have e1 : IntKind.i64.wrap ((x1 : Int)) = (x1 : Nat) := by rw [IntKind.wrap_i64]; omega
  go_enter Tryz.func3, Tryz.ntmps3
  go_wp2_with (first
    | (go_at_call 5; ((with_reducible refine (awake7 _).mono ?_); rintro e w1 ⟨rfl, hg1⟩))
    | (go_at_call 6; ((with_reducible refine (hla _ (grown_trans (World.grownBy_alloc _ _ _) hg1)).mono ?_); rintro e w2 ⟨ws, T, R, wa, wn, wc, pa, pn, pc, F, fa, fc, l, rfl, HL, hg2⟩; have ga := World.grownBy_alloc w2 (.cells #[.slice wa wn wc, .slice pa pn pc] 29) none; have b2 := two_held (two_held (heap_alloc_new' w (.cells #[.int .u8 (x0 : Nat), .int .u8 (x1 : Nat)] 23)) hg1) (grown_trans hg2 ga); have X2 := HL.tree.later ga; have K2 := HL.free.later ga; have W2 := HL.words.later ga; have P2 := own_kept HL.puts ga; have xb2 := heap_alloc_new' w2 (.cells #[.slice wa wn wc, .slice pa pn pc] 29); have OK := HL.ok; have HF := Lib.hid HL.few; have HF' : F.length ≤ 1000000 := (by have := HL.few; omega); clear HL))
    | (go_at_call 7; ((with_reducible refine (tw_plant X2).mono ?_); rintro e w3 ⟨rfl, R3, X3, G3⟩; have K3 := G3.row K2; have W3 := G3.row W2; have P3 := G3.puts P2; have xb3 := G3.far xb2 (by decide) (by decide); have b3 := G3.far b2 (by decide) (by decide); have c0 : w3.cell? ⟨w.heap.size, 0, none⟩ = some (.int .u8 (x0 : Nat)) := (by simp [World.cell?, b3]); have c1 : w3.cell? ⟨w.heap.size, 1, none⟩ = some (.int .u8 (x1 : Nat)) := (by simp [World.cell?, b3])))
    | (go_at_call 8; ((with_reducible refine (rturned_any K3.lie (by have := HF.out; omega) x0 x1 (by omega) (by omega)).mono ?_); rintro e w4 ⟨vk, K, rfl, hok, hpk, hg4⟩)))
  have K4 := ((KW.new X3 hok (Nat.le_refl _)).mono (Nat.zero_le _))
  have X4 := X3.later hg4
  have F4 := K3.later hg4
  have W4 := W3.later hg4
  have P4 := own_kept P3 hg4
  have xb4 := two_held xb3 hg4
  obtain ⟨z, ez⟩ : ∃ z, (fun x => tS (txSee ws l x)) = z := ⟨_, rfl⟩
  have hso0 := fun (w1 : World) (h : RTx w1 w.heap.size (.slice wa wn wc) (.slice pa pn pc) ws l) (la : Option Addr) (c : Nat) (L : List Nat) (hm : WordsAt w1 la L) (hl : L.length ≤ 100000) (hx : ∀ x, x ∈ L → x < 18446744073709551616) => rsorted_any (c := c) h OK hm hl hx
  rw [ez] at X4 hso0
  have hKl : K.length ≤ 4800 := by rw [hpk.length_eq]; exact HF.out
  obtain ⟨ka, kc, rfl⟩ := hok.slice
  have HP := Lib.hid hpk
  obtain ⟨m, hm⟩ : ∃ m, K.length = m := ⟨_, rfl⟩
  have HM := Lib.hid hm
  have HS0 := Lib.hid hso0
  obtain ⟨f, hf⟩ : ∃ f, F.length = f := ⟨_, rfl⟩
  have HFL := Lib.hid hf
  rw [hm] at K4 hKl ⊢
  rw [hf] at F4 HF' ⊢
  have hcap := K4.cap
  have hwb : w.heap.size + 1 ≤ w2.heap.size := by have := hg1.size; have := hg2.size; rw [World.size_alloc] at *; omega
  clear hok hg4 hpk X3 K3 c0 c1 b3 G3 K2 X2 b2 hg2 hg1 ga hm hla hn hp xb2 xb3 W2 W3 P2 P3 ez OK hso0 hf
  generalize w2.heap.size = bx at *
  go_loopw [10] (fun i wr => ∃ k R', k ≤ m ∧ i = .int .i64 (k : Nat) ∧ TW w wr T R' ws z F (K.take k) ∧ KW wr R' 0 (.slice ka m kc) K ∧ KW wr R' w.heap.size (.slice fa f fc) F ∧ KW wr R' w.heap.size (.slice wa wn wc) ws ∧ OwnP wr w.heap.size (.slice pa pn pc) l ∧ wr.heap[bx]? = some (.cells #[.slice wa wn wc, .slice pa pn pc] 29 (0, 0))) (fun i _ => m - (intOf i).toNat)
  case atStart => exact ⟨0, R3, Nat.zero_le _, rfl, X4, K4, F4, W4, P4, xb4⟩
  case round =>
    obtain ⟨k, R', hk, rfl, X, KK, KF, KV, KP, XB⟩ := hrel
    clear X4 K4 F4 W4 P4 xb4
    rcases Nat.lt_or_ge k m with h1 | h1
    · obtain ⟨b, off, rfl, hb, hcs⟩ := KK.lie.cells (by rw [HM.out]; omega)
      obtain ⟨y, hy⟩ : ∃ y, K.getD k 0 = y := ⟨_, rfl⟩
      have c0 := hcs k (by rw [HM.out]; exact h1)
      rw [hy] at c0
      have hnx := take_next (by rw [HM.out]; exact h1) hy
      have hyK : y ∈ K := by
        rw [← hy, List.getD_eq_getElem?_getD, List.getElem?_eq_getElem (by rw [HM.out]; exact h1)]
        exact List.getElem_mem _
      have hyF : y ∈ F := HP.out.mem_iff.1 hyK
      have hnd : (K.take (k + 1)).Nodup := (HP.out.nodup_iff.2 X.free.nodup).sublist (List.take_sublist _ _)
      rw [hnx] at hnd
      have hyn : y ∉ K.take k := fun h => by
        have := List.nodup_append.1 hnd
        exact this.2.2 y h y (by simp) rfl
      have hin := fun (w1 : World) (R1 : Option Nat) (h : TW w w1 T R1 ws z F (K.take k)) => tw_insert h hyF hyn
      rw [← hnx] at hin
      have hk1 : (k : Int) < (m : Int) := by omega
      have ewk : IntKind.i64.wrap ((k : Int) + 1) = (k : Int) + 1 := by rw [IntKind.wrap_i64]; omega
      have hlt : (K.take (k + 1)).length = k + 1 := by rw [List.length_take, HM.out]; omega
      have HLT := Lib.hid hlt
      have hK64 : ∀ x, x ∈ K.take (k + 1) → x < 18446744073709551616 := fun x hx => by
        have := X.free.on x (HP.out.mem_iff.1 (List.mem_of_mem_take hx))
        omega
      have HK64 := Lib.hid hK64
      clear hcs hy hnx hyK hnd hlt hK64
      go_wp2_with (first | (go_at_call 9; ((with_reducible refine (hin _ _ X).mono ?_); rintro e w5 ⟨rfl, R5, X5, G5⟩)))
      have K5 := G5.row KK
      have F5 := G5.row KF
      have V5 := G5.row KV
      have P5 := G5.puts KP
      have XB5 := G5.far XB (by decide) (by decide)
      have hck : ∀ (w1 : World) (hg : w5.grownBy w1 none), Calls Tryz.prog 10 #[.pointer (some ⟨T, 0, none⟩), .slice (some ⟨b, off, none⟩) (k + 1) kc] w1 fun e w' => e = .returned (.bool true) ∧ w1.grownBy w' none := fun w1 hg => tw_check (X5.later hg) (List.Perm.refl _) ((K5.lie.later hg).take (k + 1)) HLT.out (by omega)
      have hal : ∀ (w1 : World) (hg : w5.grownBy w1 none), Calls Tryz.prog 12 #[.pointer (some ⟨T, 0, none⟩)] w1 fun e w' => ∃ v, e = .returned v ∧ OwnW w' w1.heap.size v (srtK z (K.take (k + 1))) ∧ w1.grownBy w' none := fun w1 hg => tw_all (X5.later hg)
      have hso : ∀ (w1 : World) (hg : w5.grownBy w1 none), Calls Tryz.prog 13 #[.agg #[.slice wa wn wc, .slice pa pn pc], .slice (some ⟨b, off, none⟩) (k + 1) kc] w1 fun e w' => ∃ v, e = .returned v ∧ OwnW w' w1.heap.size v (srtK z (K.take (k + 1))) ∧ w1.grownBy w' none := fun w1 hg => by
        have := HS0.out w1 ⟨V5.own.later hg, own_kept P5 hg⟩ (some ⟨b, off, none⟩) kc (K.take (k + 1)) ((K5.lie.later hg).take (k + 1)) (by rw [HLT.out]; omega) HK64.out
        rw [HLT.out] at this
        exact this
      have hnm : ∀ (w1 : World) (base base' : Nat) (p q : Value) (hp : OwnW w1 base p (srtK z (K.take (k + 1)))) (hq : OwnW w1 base' q (srtK z (K.take (k + 1)))), Calls Tryz.prog 11 #[p, q] w1 fun e w' => e = .returned (.bool true) ∧ w1.grownBy w' none := fun w1 base base' p q hp hq => nums_same hp hq (by rw [srtK_length, HLT.out]; omega)
      have hcell : ∀ {wq : World}, w5.grownBy wq none → wq.cell? ⟨bx, 0, none⟩ = some (.slice wa wn wc) ∧ wq.cell? ⟨bx, 1, none⟩ = some (.slice pa pn pc) := fun {wq} hg => two_cells (two_held XB5 hg)
      have HG : w5.grownBy w5.drew none := grown_drew (grown_refl _ _)
      obtain ⟨t0, t1⟩ := hcell HG
      have HCE := Lib.hid (fun (wq : World) (hg : w5.grownBy wq none) => hcell hg)
      have hk2 : (k : Int) + 1 ≤ (kc : Int) := by omega
      have hk3 : (0 : Int) ≤ (k : Int) + 1 := by omega
      have hk4 : ((k : Int) + 1).toNat = k + 1 := by omega
      clear hcell c0
      go_wp2
      go_region_held3 (fun wq => wq.cell? ⟨bx, 0, none⟩ = some (.slice wa wn wc) ∧ wq.cell? ⟨bx, 1, none⟩ = some (.slice pa pn pc)) (exact HCE.out _ HG) (first
        | (go_at_call 10; ((with_reducible refine (hck _ HG).mono ?_); rintro e w9 ⟨rfl, hg9⟩; replace HG := grown_trans HG hg9; obtain ⟨t0, t1⟩ := HCE.out _ HG))
        | (go_at_call 12; ((with_reducible refine (hal _ HG).mono ?_); rintro e w9 ⟨v9, rfl, ho9, hg9⟩; replace HG := grown_trans HG hg9; obtain ⟨t0, t1⟩ := HCE.out _ HG))
        | (go_at_call 13; ((with_reducible refine (hso _ HG).mono ?_); rintro e w9 ⟨v10, rfl, ho10, hg9⟩; replace ho9 := ho9.later hg9; replace HG := grown_trans HG hg9; obtain ⟨t0, t1⟩ := HCE.out _ HG))
        | (go_at_call 11; ((with_reducible refine (hnm _ _ _ _ _ ho9 ho10).mono ?_); rintro e w9 ⟨rfl, hg9⟩; replace HG := grown_trans HG hg9; obtain ⟨t0, t1⟩ := HCE.out _ HG)))
      have X6 := X5.later HG
      have K6 := K5.later HG
      have F6 := F5.later HG
      have V6 := V5.later HG
      have P6 := own_kept P5 HG
      have XB6 := two_held XB5 HG
      clear t0 t1
      go_wp2
      go_roundw
      case rel => exact ⟨k + 1, R5, by omega, by go_num, X6, K6, F6, V6, P6, XB6⟩
      case measure => simp [intOf]; omega
    · obtain rfl : k = m := by omega
      rw [List.take_of_length_le (Nat.le_of_eq HM.out)] at X
      have hck : ∀ (w1 : World) (R1 : Option Nat) (hm : WordsAt w1 fa F) (h : TW w w1 T R1 ws z F K), Calls Tryz.prog 10 #[.pointer (some ⟨T, 0, none⟩), .slice fa f fc] w1 fun e w' => e = .returned (.bool true) ∧ w1.grownBy w' none := fun w1 R1 hm h => tw_check h HP.out hm HFL.out HF'
      go_wp2_with (first
        | (go_at_call 10; ((with_reducible refine (hck _ _ KF.lie X).mono ?_); rintro e w5 ⟨rfl, hg5⟩; have X5 := X.later hg5)))
      go_ret
      exact ⟨rfl, X5.since⟩
theorem walk {la : Option Addr} {n c : Nat} {A B C : Nat → Nat} (hc : n ≤ c) (hn : n ≤ maxLen) {w : World} (hp : PiecesAt w la n A B C) {x0 x1 : Nat} (h0 : x0 < 256) (h1 : x1 < 256) :
    Calls Tryz.prog 3 #[.slice la n c, .agg #[.int .u8 x0, .int .u8 x1]] w fun e w' => e = .returned (.bool true) ∧ Below w.heap.size w w' :=
  (core hc hn hp x0 x1 h0 h1).mono fun e w' ⟨h1, h2⟩ => ⟨h1, grown_below h2⟩
theorem laidOut : laidOutB Tryz.prog = true := by kernel_rfl
/-! ### The row's step: the guide's frame -/
theorem own : ownKnob Tryz.prog.godebug = none := by kernel_rfl
set_option maxRecDepth 100000 in
theorem lifted (os : Os) (started : os.Started) (H : Type) (enc : TypeId × Value → H) :
    ReturnsInHanded {} Tryz.checked os 3 .any (Rows.treeTurnsSpec.pre6 enc Tryz.prog Tryz.f3 Rows.treeTurnsRow.domain false) (Rows.treeTurnsSpec.post enc Tryz.prog Tryz.f3 false true false false) := by
  refine returnsInHanded_of_change (C := Tryz.checked) own started (by kernel_rfl) Tryz.func3
    (ChangeSpec.witness6 (enc := enc) (C := Tryz.checked) false ⟨#[], #[.slice none 0 0, .agg #[.int .u8 0, .int .u8 0]], []⟩ 8 (by kernel_rfl) (by kernel_rfl) (by kernel_rfl) (by kernel_rfl)) ?_
  intro W base args ds gs before hval0 hW hcnd _
  have hval : ∀ (j : Nat) t v, Tryz.f3.params[j]? = some t → args[j]? = some v → Value.okWide Tryz.prog W .any base t v := hval0
  have hW' := hW
  obtain ⟨p, q, hA0, hV, rfl, hfz, hnd⟩ := hW
  have hA : DataW.TrodAll enc Tryz.prog W 0 (fun _ => true) true Tryz.f3.params.toList args.toList ds p := hA0
  rw [Tryz.params3] at hA hval
  obtain ⟨v0, vs0, d0, ds0, p0, q0, hargs, rfl, rfl, h0, r0⟩ := trodAll_cons hA
  obtain ⟨v1, vs1, d1, ds1, p1, q1, rfl, rfl, rfl, h1, r1⟩ := trodAll_cons r0
  obtain ⟨rfl, rfl, rfl⟩ := trodAll_nil r1
  obtain rfl : args = #[v0, v1] := by cases args; simp_all
  obtain ⟨rfl, rfl⟩ := trodVars_none hV
  have lt0 : ∀ x ∈ p0, x.block < W.heap.size := by obtain ⟨m, hm⟩ := h0; exact DataW.trod_lt m _ _ _ hm
  obtain ⟨la0, n0, c0, A0, B0, C0, rfl, hc0, hn0, hp0⟩ := open_pieces (hval 0 22 v0 rfl rfl) h0
  have lt1 : ∀ x ∈ p1, x.block < W.heap.size := by obtain ⟨m, hm⟩ := h1; exact DataW.trod_lt m _ _ _ hm
  obtain ⟨x1, y1, rfl, hx1, hy1⟩ := open_byte2 (hval 1 23 v1 rfl rfl) h1
  clear hA0 hval0
  refine (walk hc0 hn0 hp0 hx1 hy1).mono fun e W' ⟨he, bel⟩ => ?_
  subst he
  exact ⟨_, rfl, _, _, _, [], _, [], hW', trodAll_mk1 (shut_bool Tryz.underlying4 _), (trodAll_cons_mk (Below.trod laidOut (by kernel_rfl) (of_decide_eq_true (by kernel_rfl)) h0 bel lt0) (trodAll_cons_mk (Below.trod laidOut (by kernel_rfl) (of_decide_eq_true (by kernel_rfl)) h1 bel lt1) trodAll_mk0)), rfl, bel.frame _, fun h => by cases h⟩

theorem over : Rows.treeTurnsRow.holds Tryz.pinned (OpenSpec.ofChange Rows.treeTurnsSpec) :=
  OpenClaim.holds_of_wide 3 Tryz.f3 rfl rfl rfl rfl rfl rfl rfl ⟨rfl, rfl, rfl, rfl, rfl⟩ rfl rfl rfl rfl rfl (by kernel_rfl) Tryz.func3 (by kernel_rfl)
    (of_decide_eq_true (by kernel_rfl)) (by unfold Func.isWrapper; first | (rw [if_pos (by decide +kernel)]; kernel_rfl) | (rw [if_neg (by decide +kernel)]; exact ⟨rfl, rfl⟩))
    (fun os started H enc _ => lifted os started H enc)

theorem proved : Rows.TreeTurnsSaid :=
  over
#print axioms proved


end Go.Proofs.YthhboidjibdahaaGreat.treeTurns
