/-
  Whatever comes and goes, in whatever turn (40 steps at most), the tree is that of what is in it. The statement TreeMixed, for every list of pieces and all steps; no condition.
-/
import Derived.Test.YthhboidjibdahaaTreeAx
import Derived.Test.YthhboidjibdahaaTreeTa
import Derived.BigQuiet
import Derived.Test.YthhboidjibdahaaArrO
namespace Go.Proofs.Ythhboidjibdahaa.treeMixed
open Go.ChangeShapes Go.WideShapes Go.ChangeAt Go.RowKit
set_option linter.unusedVariables false
set_option linter.unusedSimpArgs false

set_option maxRecDepth 100000 in
set_option maxHeartbeats 8000000 in
theorem core {la : Option Addr} {n c : Nat} {A B C : Nat → Nat} (hc : n ≤ c) (hn : n ≤ maxLen) {w : World} (hp : PiecesAt w la n A B C) {lb : Option Addr} {n2 c2 : Nat} {S : Nat → Nat} (hc2 : n2 ≤ c2) (hn2 : n2 ≤ maxLen) (hs : BytesAt w lb n2 S) :
    Calls Try.prog 5 #[.slice la n c, .slice lb n2 c2] w fun e w' => e = .returned (.bool true) ∧ w.grownBy w' none := by
  have hla := fun (w1 : World) (hg : w.grownBy w1 none) => laid7_from hp hc hn hg
  by_cases h40 : 40 < n2
  · have h40' : (40 : Int) < (n2 : Int) := by omega
    go_enter Try.func5, Try.ntmps5
    go_wp2_with (first
      | (go_at_call 6; ((with_reducible refine (awake7 _).mono ?_); rintro e w1 ⟨rfl, hg1⟩))
      | (go_at_call 7; ((with_reducible refine (hla _ hg1).mono ?_); rintro e w2 ⟨ws, T, R, wa, wn, wc, pa, pn, pc, F, fa, fc, l, rfl, HL, hg2⟩; have ga := World.grownBy_alloc w2 (.cells #[.slice wa wn wc, .slice pa pn pc] 29) none; obtain ⟨z, ez⟩ : ∃ z, (fun x => tS (txSee ws l x)) = z := ⟨_, rfl⟩; have X2 := HL.tree.later ga; rw [ez] at X2; have K2 := HL.free.later ga; obtain ⟨m, hm⟩ : ∃ m, F.length = m := ⟨_, rfl⟩; have HM := Lib.hid hm; have hf := HL.few; have hpos := HL.pos; rw [hm] at K2 hf hpos ⊢; have hm0 : ¬ (m : Int) = 0 := (by omega); have hmp : (0 : Int) < (m : Int) := (by omega); have hmb : ((m : Int) == 0) = false := (by rw [beq_eq_false_iff_ne]; exact hm0); clear HL ez hm))
      | (go_at_call 17; ((with_reducible refine (tw_plant X2).mono ?_); rintro e w3 ⟨rfl, R3, X3, G3⟩; have K3 := G3.row K2)))
    go_ret
    exact ⟨rfl, X3.since⟩
  · have h40' : ¬ (40 : Int) < (n2 : Int) := by omega
    have h40b : decide ((40 : Int) < (n2 : Int)) = false := decide_eq_false h40'
    go_enter Try.func5, Try.ntmps5
    go_wp2_with (first
      | (go_at_call 6; ((with_reducible refine (awake7 _).mono ?_); rintro e w1 ⟨rfl, hg1⟩))
      | (go_at_call 7; ((with_reducible refine (hla _ hg1).mono ?_); rintro e w2 ⟨ws, T, R, wa, wn, wc, pa, pn, pc, F, fa, fc, l, rfl, HL, hg2⟩; have ga := World.grownBy_alloc w2 (.cells #[.slice wa wn wc, .slice pa pn pc] 29) none; obtain ⟨z, ez⟩ : ∃ z, (fun x => tS (txSee ws l x)) = z := ⟨_, rfl⟩; have X2 := HL.tree.later ga; rw [ez] at X2; have K2 := HL.free.later ga; obtain ⟨m, hm⟩ : ∃ m, F.length = m := ⟨_, rfl⟩; have HM := Lib.hid hm; have hf := HL.few; have hpos := HL.pos; rw [hm] at K2 hf hpos ⊢; have hm0 : ¬ (m : Int) = 0 := (by omega); have hmp : (0 : Int) < (m : Int) := (by omega); have hmb : ((m : Int) == 0) = false := (by rw [beq_eq_false_iff_ne]; exact hm0); clear HL ez hm))
      | (go_at_call 17; ((with_reducible refine (tw_plant X2).mono ?_); rintro e w3 ⟨rfl, R3, X3, G3⟩; have K3 := G3.row K2)))
    have KI : KW w3 R3 w.heap.size (.slice none 0 0) [] := ⟨World.ownsRow_nil _ _ _ _, fun g e => by simp [Value.ownBlock] at e⟩
    clear X2 K2 G3 ga hg2 hg1 hla hn hp
    go_loopw [9, 10] (fun v i wr => ∃ k R' I, k ≤ n2 ∧ i = .int .i64 (k : Nat) ∧ TW w wr T R' ws z F I ∧ KW wr R' w.heap.size v I ∧ KW wr R' w.heap.size (.slice fa m fc) F) (fun _ i _ => n2 - (intOf i).toNat)
    case atStart => exact ⟨0, R3, [], Nat.zero_le _, rfl, X3, KI, K3⟩
    case round =>
      obtain ⟨k, R', I, hk, rfl, X, KN, KF⟩ := hrel
      obtain ⟨wo, ewo⟩ : ∃ wo, wo = wr := ⟨_, rfl⟩
      subst ewo
      clear X3 K3 KI
      have hIl : I.length ≤ 4800 := X.free.few X.sub X.nodup
      obtain ⟨ia, ic, hiv⟩ := KN.own.slice
      subst hiv
      obtain ⟨d, hd⟩ : ∃ d, I.length = d := ⟨_, rfl⟩
      have HD := Lib.hid hd
      rw [hd] at KN hIl ⊢
      rcases Nat.lt_or_ge k n2 with h1 | h1
      · obtain ⟨b, off, rfl, hb, hcs⟩ := (hs.later X.since).cells (by omega)
        have c0 := hcs k h1
        obtain ⟨s, es⟩ : ∃ s, S k = s := ⟨_, rfl⟩
        have hs256 := hs.lt k
        rw [es] at c0 hs256
        obtain ⟨q, hq⟩ : ∃ q, s % m = q := ⟨_, rfl⟩
        have hqm : q < m := by rw [← hq]; exact Nat.mod_lt _ hpos
        have et : (s : Int).tmod (m : Int) = (q : Nat) := by rw [Int.tmod_eq_emod_of_nonneg (by omega), ← hq]; omega
        have ews : IntKind.i64.wrap (s : Int) = (s : Nat) := by rw [IntKind.wrap_i64]; omega
        have ewm : IntKind.i64.wrap (m : Int) = (m : Nat) := by rw [IntKind.wrap_i64]; omega
        have ewq : IntKind.i64.wrap (q : Int) = (q : Nat) := by rw [IntKind.wrap_i64]; omega
        have hqm' : (q : Int) < (m : Int) := by omega
        have hk1 : (k : Int) < (n2 : Int) := by omega
        obtain ⟨b2, off2, rfl, hb2, hcs2⟩ := KF.lie.cells (by rw [HM.out]; omega)
        have c1 := hcs2 q (by rw [HM.out]; exact hqm)
        obtain ⟨y, hy⟩ : ∃ y, F.getD q 0 = y := ⟨_, rfl⟩
        rw [hy] at c1
        have hyF : y ∈ F := by
          rw [← hy, List.getD_eq_getElem?_getD, List.getElem?_eq_getElem (by rw [HM.out]; exact hqm)]
          exact List.getElem_mem _
        clear hcs hcs2 hy es
        have HF2 := Lib.hid KF
        have HN2 := Lib.hid KN
        clear KF
        go_wp2
        have hsz := (grown_refl wo)
        go_loopw [12, 13] (fun v i wq => ∃ j, j ≤ d ∧ i = .int .i64 (j : Nat) ∧ OwnW wq wo.heap.size v ((I.take j).filter fun a => decide (a ≠ y)) ∧ wo.grownBy wq none) (fun _ i _ => d - (intOf i).toNat)
        case atStart => exact ⟨0, Nat.zero_le _, rfl, World.ownsRow_nil _ _ _ _, grown_refl _ _⟩
        case round =>
          obtain ⟨j, hj, rfl, hown, hgq⟩ := hrel
          obtain ⟨ra, rn, rc, hrv⟩ := wv_form hown
          subst hrv
          rcases Nat.lt_or_ge j d with h3 | h3
          · obtain ⟨b3, off3, rfl, hb3, hcs3⟩ := (HN2.out.later hgq).lie.cells (by rw [HD.out]; omega)
            have c3 := hcs3 j (by rw [HD.out]; exact h3)
            obtain ⟨x, hx⟩ : ∃ x, I.getD j 0 = x := ⟨_, rfl⟩
            rw [hx] at c3
            have hst := filter_step (y := y) (by rw [HD.out]; exact h3) hx
            have HST := Lib.hid hst
            have HOWN := Lib.hid hown
            have hj1 : (j : Int) < (d : Int) := by omega
            have hszq := hgq.size
            have hlj : ((I.take j).filter fun a => decide (a ≠ y)).length ≤ 10000000 := by
              have h8 := List.length_filter_le (fun a => decide (a ≠ y)) (I.take j)
              rw [List.length_take] at h8
              omega
            clear hcs3 hst hx hown c1 c0
            by_cases exy : x = y
            · subst exy
              have e2 : ((x : Int) != (x : Int)) = false := by simp
              go_wp2
              go_roundw
              case rel => exact ⟨j + 1, by omega, by go_num, by rw [HST.out, if_pos rfl, List.append_nil]; exact HOWN.out, hgq⟩
              case measure => simp [intOf]; omega
            · have e2 : ((x : Int) != (y : Int)) = true := by simp; omega
              go_wp2_with (at_builtin; go_must (refine wpList_append_num rfl _ _ rfl wo.heap.size (.slice ra rn rc) _ rfl HOWN.out x rfl hlj hszq ?_); intro v8 w8 hown8 hg8 hloc8)
              go_roundw
              case rel => exact ⟨j + 1, by omega, by go_num, by rw [HST.out, if_neg exy]; exact hown8, grown_step hgq hg8 (fun i hi => .inl (World.ownsRow.lt HOWN.out i hi).1)⟩
              case measure => simp [intOf]; omega
          · obtain rfl : j = d := by omega
            rw [List.take_of_length_le (Nat.le_of_eq HD.out)] at hown
            have hbase := X.since.size
            have X1 := X.later hgq
            have KF1 := HF2.out.later hgq
            have KR1 : KW wr R' wo.heap.size (.slice ra rn rc) (I.filter fun a => decide (a ≠ y)) := KW.new X hown (Nat.le_refl _)
            have hne : ∀ g, (Value.slice (some ⟨b2, off2, none⟩) m fc).ownBlock = some g → (Value.slice ra rn rc).ownBlock ≠ some g := fun g e e2 => by
              have h8 := (World.ownsRow.lt HF2.out.own g e).2
              have h9 := (World.ownsRow.lt hown g e2).1
              omega
            have hrn : rn = (I.filter fun a => decide (a ≠ y)).length := by
              obtain ⟨a9, c9, h9⟩ := hown.slice
              injection h9
            have HNE := Lib.hid hne
            by_cases hyI : y ∈ I
            · have hlt := filter_less hyI
              rw [← hrn, HD.out] at hlt
              have hlt' : (rn : Int) < (j : Int) := by omega
              have hde := fun (w1 : World) (h : TW w w1 T R' ws z F I) => tw_delete h hyF hyI (List.Perm.refl _)
              have hck : ∀ (w1 : World) (R1 : Option Nat) (hm : WordsAt w1 ra (I.filter fun a => decide (a ≠ y))) (h : TW w w1 T R1 ws z F (I.filter fun a => decide (a ≠ y))), Calls Try.prog 11 #[.pointer (some ⟨T, 0, none⟩), .slice ra rn rc] w1 fun e w' => e = .returned (.bool true) ∧ w1.grownBy w' none := fun w1 R1 hm h => tw_check h (List.Perm.refl _) hm hrn.symm (by omega)
              have HH := Lib.hid hyF
              clear hown hne hrn c0 c1 hgq HNE
              go_wp2_with (first
                | (go_at_call 10; go_must ((with_reducible refine (hde _ X1).mono ?_); rintro e w5 ⟨rfl, R5, X5, G5⟩; have KR5 := G5.row KR1; have KF5 := G5.row KF1))
                | (go_at_call 11; go_must ((with_reducible refine (hck _ _ KR5.lie X5).mono ?_); rintro e w6 ⟨rfl, hg6⟩; have X6 := X5.later hg6; have KR6 := KR5.later hg6; have KF6 := KF5.later hg6)))
              go_roundw
              case rel => exact ⟨k + 1, R5, _, by omega, by go_num, X6, KR6.mono hbase, KF6⟩
              case measure => simp [intOf]; omega
            · rw [filter_out hyI] at KR1 hrn
              rw [HD.out] at hrn
              subst hrn
              have hdn := fun (w1 : World) (h : TW w w1 T R' ws z F I) => tw_stays h hyF hyI
              have hin := fun (w1 : World) (h : TW w w1 T R' ws z F I) => tw_insert h hyF hyI
              have hap := fun (w1 w' : World) (R1 : Option Nat) (X : TW w w1 T R1 ws z F (I ++ [y])) (K : KW w1 R1 wo.heap.size (.slice ra rn rc) I) (KF : KW w1 R1 w.heap.size (.slice (some ⟨b2, off2, none⟩) m fc) F) (v' : Value) hg hl ho => X.app (w' := w') (v' := v') (y := y) K hbase KF HNE.out hg hl ho
              have hck := fun (w1 : World) (R1 : Option Nat) (a : Option Addr) (c : Nat) (hm : WordsAt w1 a (I ++ [y])) (h : TW w w1 T R1 ws z F (I ++ [y])) => tw_check (c := c) (n := rn + 1) h (List.Perm.refl _) hm (by simp [HD.out]) (by omega)
              have hsz1 := hgq.size
              have HI := Lib.hid hyI
              have hlI : I.length ≤ 10000000 := by have := HD.out; omega
              clear hown hne c0 c1 hgq
              go_wp2_with (first
                | (go_at_call 10; go_must ((with_reducible refine (hdn _ X1).mono ?_); rintro e w5 ⟨rfl, hg5⟩; have X5 := X1.later hg5; have KR5 := KR1.later hg5; have KF5 := KF1.later hg5))
                | (go_at_call 18; go_must ((with_reducible refine (hin _ X5).mono ?_); rintro e w6 ⟨rfl, R6, X6, G6⟩; have KR6 := G6.row KR5; have KF6 := G6.row KF5; have hsz6 := Nat.le_trans hsz1 (Nat.le_trans hg5.size G6.size)))
                | (at_builtin; go_must (refine wpList_append_num rfl _ _ rfl wo.heap.size (.slice ra rn rc) I rfl KR6.own y rfl hlI hsz6 ?_); intro v8 w8 ho8 hg8 hl8; obtain ⟨X8, KR8, KF8⟩ := hap _ _ _ X6 KR6 KF6 _ hg8 hl8 ho8; obtain ⟨va8, vc8, hv8⟩ := ho8.slice; subst hv8)
                | (go_at_call 11; go_must ((with_reducible refine (hck _ _ _ _ KR8.lie X8).mono ?_); rintro e w9 ⟨rfl, hg9⟩; have X9 := X8.later hg9; have KR9 := KR8.later hg9; have KF9 := KF8.later hg9)))
              go_roundw
              case rel => exact ⟨k + 1, R6, _, by omega, by go_num, X9, (by have e9 : (I ++ [y]).length = rn + 1 := (by simp [HD.out]); rw [← e9]; exact KR9.mono hbase), KF9⟩
              case measure => simp [intOf]; omega
      · obtain rfl : k = n2 := by omega
        have hal : ∀ (w1 : World) (R1 : Option Nat) (h : TW w w1 T R1 ws z F I), Calls Try.prog 13 #[.pointer (some ⟨T, 0, none⟩)] w1 fun e w' => ∃ a c, e = .returned (.slice a d c) ∧ w1.grownBy w' none := fun w1 R1 h => (tw_all h).mono fun e w' ⟨v, h1, h2, h3⟩ => by
          obtain ⟨a, c, rfl⟩ := h2.slice
          rw [srtK_length, HD.out] at h1
          exact ⟨a, c, h1, h3⟩
        go_wp2_with (first
          | (go_at_call 13; ((with_reducible refine (hal _ _ X).mono ?_); rintro e w6 ⟨a6, c6, rfl, hg6⟩; have X6 := X.later hg6)))
        go_ret
        exact ⟨ret_bool' (by simp), X6.since⟩
theorem walk {la : Option Addr} {n c : Nat} {A B C : Nat → Nat} (hc : n ≤ c) (hn : n ≤ maxLen) {w : World} (hp : PiecesAt w la n A B C) {lb : Option Addr} {n2 c2 : Nat} {S : Nat → Nat} (hc2 : n2 ≤ c2) (hn2 : n2 ≤ maxLen) (hs : BytesAt w lb n2 S) :
    Calls Try.prog 5 #[.slice la n c, .slice lb n2 c2] w fun e w' => e = .returned (.bool true) ∧ Below w.heap.size w w' :=
  (core hc hn hp hc2 hn2 hs).mono fun e w' ⟨h1, h2⟩ => ⟨h1, grown_below h2⟩
theorem laidOut : laidOutB Try.prog = true := by kernel_rfl
/-! ### The row's step: the guide's frame -/
theorem own : ownKnob Try.prog.godebug = none := by kernel_rfl
set_option maxRecDepth 100000 in
theorem lifted (os : Os) (started : os.Started) (H : Type) (enc : TypeId × Value → H) :
    ReturnsInHanded {} Try.checked os 5 .any (Rows.treeMixedSpec.pre6 enc Try.prog Try.f5 Rows.treeMixedRow.domain false) (Rows.treeMixedSpec.post enc Try.prog Try.f5 false true false false) := by
  refine returnsInHanded_of_change (C := Try.checked) own started (by kernel_rfl) Try.func5
    (ChangeSpec.witness6 (enc := enc) (C := Try.checked) false ⟨#[], #[.slice none 0 0, .slice none 0 0], []⟩ 8 (by kernel_rfl) (by kernel_rfl) (by kernel_rfl) (by kernel_rfl)) ?_
  intro W base args ds gs before hval0 hW hcnd _
  have hval : ∀ (j : Nat) t v, Try.f5.params[j]? = some t → args[j]? = some v → Value.okWide Try.prog W .any base t v := hval0
  have hW' := hW
  obtain ⟨p, q, hA0, hV, rfl, hfz, hnd⟩ := hW
  have hA : DataW.TrodAll enc Try.prog W 0 (fun _ => true) true Try.f5.params.toList args.toList ds p := hA0
  rw [Try.params5] at hA hval
  obtain ⟨v0, vs0, d0, ds0, p0, q0, hargs, rfl, rfl, h0, r0⟩ := trodAll_cons hA
  obtain ⟨v1, vs1, d1, ds1, p1, q1, rfl, rfl, rfl, h1, r1⟩ := trodAll_cons r0
  obtain ⟨rfl, rfl, rfl⟩ := trodAll_nil r1
  obtain rfl : args = #[v0, v1] := by cases args; simp_all
  obtain ⟨rfl, rfl⟩ := trodVars_none hV
  have lt0 : ∀ x ∈ p0, x.block < W.heap.size := by obtain ⟨m, hm⟩ := h0; exact DataW.trod_lt m _ _ _ hm
  obtain ⟨la0, n0, c0, A0, B0, C0, rfl, hc0, hn0, hp0⟩ := open_pieces (hval 0 22 v0 rfl rfl) h0
  have lt1 : ∀ x ∈ p1, x.block < W.heap.size := by obtain ⟨m, hm⟩ := h1; exact DataW.trod_lt m _ _ _ hm
  obtain ⟨la1, n1, c1, A1, rfl, hc1, hn1, hp1⟩ := open_bytes7 (hval 1 45 v1 rfl rfl) h1
  clear hA0 hval0
  refine (walk hc0 hn0 hp0 hc1 hn1 hp1).mono fun e W' ⟨he, bel⟩ => ?_
  subst he
  exact ⟨_, rfl, _, _, _, [], _, [], hW', trodAll_mk1 (shut_bool Try.underlying4 _), (trodAll_cons_mk (Below.trod laidOut (by kernel_rfl) (of_decide_eq_true (by kernel_rfl)) h0 bel lt0) (trodAll_cons_mk (Below.trod laidOut (by kernel_rfl) (of_decide_eq_true (by kernel_rfl)) h1 bel lt1) trodAll_mk0)), rfl, bel.frame _, fun h => by cases h⟩

theorem over : Rows.treeMixedRow.holds Try.pinned (OpenSpec.ofChange Rows.treeMixedSpec) :=
  OpenClaim.holds_of_wide 5 Try.f5 rfl rfl rfl rfl rfl rfl rfl ⟨rfl, rfl, rfl, rfl, rfl⟩ rfl rfl rfl rfl rfl (by kernel_rfl) Try.func5 (by kernel_rfl)
    (of_decide_eq_true (by kernel_rfl)) (by unfold Func.isWrapper; first | (rw [if_pos (by decide +kernel)]; kernel_rfl) | (rw [if_neg (by decide +kernel)]; exact ⟨rfl, rfl⟩))
    (fun os started H enc _ => lifted os started H enc)

theorem proved : Rows.TreeMixedSaid :=
  over
#print axioms proved


end Go.Proofs.Ythhboidjibdahaa.treeMixed
