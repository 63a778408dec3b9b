/-
  All entries are found by their names, each with its payload; each payload is named. The statement DirAll; no condition.
-/
import Derived.Test.YtkkkgikmeiocaaaLDik
import Derived.Test.YtkkkgikmeiocaaaLDif
import Derived.Test.YtkkkgikmeiocaaaRows
import Derived.Lib.SmallJoins
import Derived.ProofKit
import Derived.OpenShut
import Derived.Carry
import Derived.ChangeOld
import Derived.Deep.RegionHeld3
namespace Go.Proofs.Ytkkkgikmeiocaaa.dirAll
open Go.ChangeShapes Go.WideShapes Go.ChangeAt Go.RowKit
set_option linter.unusedVariables false
set_option linter.unusedSimpArgs false
set_option maxRecDepth 100000

section
variable {f : Nat → Nat} {s : ByteArray} {p j o : Nat}
theorem at_some (H : DirOk NmD f) (hj : j < 16) (h : entAt f j = some (s, o)) : nmOk s ∧ stN f s = some j ∧ f (dAt j + 16) = o ∧ 1 < o := by
  unfold entAt at h
  split at h
  · rename_i h1
    cases e : nameD (f (dAt j)) (f (dAt j + 8)) with
    | none => rw [e] at h; cases h
    | some q =>
      rw [e] at h
      injection h with h
      injection h with h2 h3
      subst h2
      obtain ⟨n1, n2, n3⟩ := nameD_some e
      refine ⟨n1, ?_, h3, by omega⟩
      rw [stN_of n1]
      exact H.one nmD_one ⟨q, n1, rfl, rfl, rfl⟩ ⟨hj, h1, n2.symm, n3.symm⟩
  · cases h
theorem get_ent {l : List (ByteArray × Nat)} {k : Nat} (hk : k < l.length) : (entS l k, entO l k) = l[k] := by
  unfold entS entO
  rw [List.getD_eq_getElem?_getD, List.getElem?_eq_getElem hk]
  rfl
theorem ent_at (H : DirOk NmD f) {k : Nat} (hk : k < (entK f 16).length) : ∃ j, j < 16 ∧ nmOk (entS (entK f 16) k) ∧ stN f (entS (entK f 16) k) = some j ∧ f (dAt j + 16) = entO (entK f 16) k ∧ 1 < entO (entK f 16) k := by
  have hm : (entS (entK f 16) k, entO (entK f 16) k) ∈ entK f 16 := by rw [get_ent hk]; exact List.getElem_mem hk
  have hm' : (entS (entK f 16) k, entO (entK f 16) k) ∈ (List.range 16).filterMap (entAt f) := hm
  obtain ⟨j, hj, e⟩ := List.mem_filterMap.1 hm'
  exact ⟨j, List.mem_range.1 hj, at_some H (List.mem_range.1 hj) e⟩
theorem ent_apart (H : DirOk NmD f) {i k : Nat} (hi : i < k) (hk : k < (entK f 16).length) : entS (entK f 16) i ≠ entS (entK f 16) k := by
  have hp : (entK f 16).Pairwise (fun x y => x.1 ≠ y.1) := by
    unfold entK
    rw [List.pairwise_filterMap]
    refine List.Pairwise.imp_of_mem ?_ List.pairwise_lt_range
    intro a b ha hb hab x hx y hy e
    obtain ⟨_, a2, _⟩ := at_some (s := x.1) (o := x.2) H (List.mem_range.1 ha) hx
    obtain ⟨_, b2, _⟩ := at_some (s := y.1) (o := y.2) H (List.mem_range.1 hb) hy
    rw [e, b2] at a2
    injection a2 with a2
    omega
  have := List.pairwise_iff_getElem.1 hp i k (by omega) hk hi
  rw [← get_ent (by omega), ← get_ent hk] at this
  exact this
theorem nmd_yes (hp : 1 < p) (hj : f (dAt j + 16) = p) : ∀ n k, k ≤ j → j < k + n → nmdF f p n k = true
  | 0, k, h1, h2 => by omega
  | n + 1, k, h1, h2 => by
    show (if 1 < p ∧ f (dAt k + 16) = p then true else nmdF f p n (k + 1)) = true
    by_cases e : k = j
    · subst e; rw [if_pos ⟨hp, hj⟩]
    · split
      · rfl
      · exact nmd_yes hp hj n (k + 1) (by omega) (by omega)
end
set_option maxHeartbeats 8000000 in
theorem core {w : World} {la : Option Addr} {n c : Nat} {X : Nat → Bool} {S : Nat → ByteArray} {O : Nat → Nat} (hp : NamesAt w la n X S O) (hn : n ≤ maxLen) :
    Calls Try.prog 6 #[.slice la n c] w fun e w' => e = .returned (.bool true) ∧ w.grownBy w' none := by
  obtain ⟨ws, f, hok, hpl⟩ := played13_nil (c := c) hp hn
  have he := fun k hk => ent_at (k := k) hok hk
  have hap := fun i k hi hk => ent_apart (i := i) (k := k) hok hi hk
  have hl16 := entK_len f 16
  have hal := fun (w V : World) (T : Nat) (R : Option Nat) (h : DF w V T R ws f) => dall_c h
  obtain ⟨l, el⟩ : ∃ l, entK f 16 = l := ⟨_, rfl⟩
  rw [el] at he hap hl16
  simp only [el] at hal
  obtain ⟨m, em⟩ : ∃ m, l.length = m := ⟨_, rfl⟩
  rw [em] at he hap hl16
  have hm16 : (m : Int) ≤ 16 := by omega
  have HPL := Lib.hid hpl
  have HE := Lib.hid he
  have HAP := Lib.hid hap
  have HAL := Lib.hid hal
  have EM := Lib.hid em
  clear hpl he hap hal hok hp hn el em
  go_enter Try.func6, Try.ntmps6
  go_wp2_with (first
    | (go_at_call 8; go_must ((with_reducible refine (awake13 _).mono ?_); rintro e w1 ⟨rfl, hg1⟩))
    | (go_at_call 9; go_must ((with_reducible refine (HPL.out _ hg1).mono ?_); rintro e w2 ⟨T, R, wv, pv, rfl, hD, hX, hne⟩; obtain ⟨⟨wa, wn, wc, rfl⟩, pa, pn, pc, rfl⟩ := hX.form; have ga := World.grownBy_alloc w2 (.cells #[.slice wa wn wc, .slice pa pn pc] 28) none; have D3 := hD.later ga; have c3 := HAL.out _ _ _ _ D3))
    | (go_at_call 15; go_must ((with_reducible refine c3.mono ?_); rintro e w4 ⟨v, rfl, ho, hg4⟩; have D4 := D3.later hg4; obtain ⟨a, c', g, hv, hva, hvc⟩ := ho.addr; rw [EM.out] at hv hva hvc; subst hv)))
  have hcl := fun V (hg : w4.grownBy V none) => hvc V (ho.later hg)
  have HCL := Lib.hid hcl
  have HVA := Lib.hid hva
  have D4H := Lib.hid D4
  clear hcl hvc hva ho c3 D3 D4 hD hX hne ga
  go_loopw [8] (fun i wr => ∃ k : Nat, k ≤ m ∧ i = .int .i64 k ∧ w4.grownBy wr none) (fun i _ => m - (intOf i).toNat)
  case atStart => exact ⟨0, Nat.zero_le _, rfl, grown_refl _ _⟩
  case round =>
    obtain ⟨k, hk, rfl, hgr⟩ := hrel
    by_cases h1 : k < m
    · have hki : (k : Int) < (m : Int) := by omega
      obtain ⟨j, hj, hnm, hst, hfo, ho1⟩ := HE.out k h1
      have hcl := fun V (hg : wr.grownBy V none) => HCL.out V (grown_trans hgr hg) k h1
      have hsz := hnm.2
      obtain rfl := HVA.out (by omega)
      have hap := fun i (hi : i < k) => HAP.out i k hi h1
      obtain ⟨s, es⟩ : ∃ s, entS l k = s := ⟨_, rfl⟩
      obtain ⟨o, eo⟩ : ∃ o, entO l k = o := ⟨_, rfl⟩
      rw [es] at hst hsz
      rw [eo] at hfo ho1
      simp only [es, eo] at hcl hap
      have hk1 : IntKind.i64.wrap ((k : Int) + 1) = ((k + 1 : Nat) : Int) := by rw [IntKind.wrap_i64]; omega
      have hms : m - (k + 1) < m - k := by omega
      have hoo : ((o : Int) != (o : Int)) = false := by simp
      have o64 : o < 18446744073709551616 := by rw [← hfo]; exact D4H.out.lt _
      have cf : Calls Try.prog 10 #[.pointer (some ⟨T, 0, none⟩), .string s] wr fun e w' => e = .returned (.tuple #[.int .u64 (o : Nat), .bool true]) ∧ wr.grownBy w' none := by
        have := dfind_c (D4H.out.later hgr) (s := s) (Nat.le_trans hsz (by decide))
        unfold fndN at this
        rw [hst] at this
        dsimp only at this
        rw [hfo] at this
        exact this
      have cn : ∀ V, wr.grownBy V none → Calls Try.prog 17 #[.pointer (some ⟨T, 0, none⟩), .int .u64 (o : Nat)] V fun e w' => e = .returned (.bool true) ∧ V.grownBy w' none := fun V hg => by
        have := dnamed_c (D4H.out.later (grown_trans hgr hg)) (p := o) o64
        rw [nmd_yes ho1 hfo 16 0 (Nat.zero_le _) (by omega)] at this
        exact this
      have HK := Lib.hid hcl
      have HAPK := Lib.hid hap
      have CN := Lib.hid cn
      obtain ⟨q0, q1⟩ := hcl wr (grown_refl _ _)
      clear hcl hap cn es eo hst hfo hnm hsz ho1 hj o64
      go_wp2_with (first
        | (go_at_call 10; go_must ((with_reducible refine cf.mono ?_); rintro e w5 ⟨rfl, hg5⟩; obtain ⟨q0, q1⟩ := HK.out _ hg5; have c5 := CN.out _ hg5))
        | (go_at_call 17; go_must ((with_reducible refine c5.mono ?_); rintro e w6 ⟨rfl, hg6⟩)))
      have hg56 := grown_trans hg5 hg6
      clear cf c5
      go_loopw [11] (fun i w7 => ∃ x : Nat, x ≤ k ∧ i = .int .i64 x ∧ wr.grownBy w7 none) (fun i _ => k - (intOf i).toNat)
      case atStart => exact ⟨0, Nat.zero_le _, rfl, hg56⟩
      case round =>
        obtain ⟨x, hx, rfl, hg7⟩ := hrel
        by_cases h2 : x < k
        · have hxi : (x : Int) < (k : Int) := by omega
          have hgd := grown_drew hg7
          have hne := HAPK.out x h2
          have hxm : x < m := by omega
          have hxmi : (x : Int) < (m : Int) := by omega
          obtain ⟨p0, p1⟩ := HCL.out _ (grown_trans hgr hgd) x hxm
          obtain ⟨q0, q1⟩ := HK.out _ hgd
          obtain ⟨sx, ex⟩ : ∃ s, entS l x = s := ⟨_, rfl⟩
          rw [ex] at p0 hne
          have hel : ¬ sx.toList = s.toList := fun h => hne (by rw [ByteArray.toList_eq, ByteArray.toList_eq] at h; exact ByteArray.ext (Array.ext' h))
          have helb : (sx.toList == s.toList) = false := by simpa using hel
          have hx1 : IntKind.i64.wrap ((x : Int) + 1) = ((x + 1 : Nat) : Int) := by rw [IntKind.wrap_i64]; omega
          have hmx : k - (x + 1) < k - x := by omega
          clear ex hne
          go_wp2
          go_region_held3 (fun V => V.cell? ⟨g, x * 2, none⟩ = some (.string sx) ∧ V.cell? ⟨g, k * 2, none⟩ = some (.string s)) (exact ⟨p0, q0⟩) (fail)
          go_wp2
          first
            | exact ⟨⟨x + 1, by omega, by go_num, hgd⟩, by simp [intOf]; omega⟩
            | (go_roundw; (case rel => exact ⟨x + 1, by omega, by go_num, hgd⟩); (case measure => simp [intOf]; omega))
        · obtain rfl : x = k := by omega
          have hxx : ¬ (x : Int) < (x : Int) := by omega
          go_wp2
          first
            | exact ⟨⟨x + 1, by omega, by go_num, grown_trans hgr hg7⟩, by simp [intOf]; omega⟩
            | (go_roundw; (case rel => exact ⟨x + 1, by omega, by go_num, grown_trans hgr hg7⟩); (case measure => simp [intOf]; omega))
    · obtain rfl : k = m := by omega
      have hkk : ¬ (k : Int) < (k : Int) := by omega
      go_wp2
      go_ret
      exact ⟨rfl, grown_trans hg1 (grown_trans D4H.out.since hgr)⟩
theorem walk {w : World} {la : Option Addr} {n c : Nat} {X : Nat → Bool} {S : Nat → ByteArray} {O : Nat → Nat} (_ : n ≤ c) (hn : n ≤ maxLen) (hp : NamesAt w la n X S O) :
    Calls Try.prog 6 #[.slice la n c] w fun e w' => e = .returned (.bool true) ∧ Below w.heap.size w w' :=
  (core hp hn).mono fun e w' ⟨h1, h2⟩ => ⟨h1, grown_below h2⟩
theorem laidOut : laidOutB Try.prog = true := by kernel_rfl
/-! ### The row's step: the guide's frame -/
theorem own : ownKnob Try.prog.godebug = none := by kernel_rfl
set_option maxRecDepth 100000 in
theorem lifted (os : Os) (started : os.Started) (H : Type) (enc : TypeId × Value → H) :
    ReturnsInHanded {} Try.checked os 6 .any (Rows.dirAllSpec.pre6 enc Try.prog Try.f6 Rows.dirAllRow.domain false) (Rows.dirAllSpec.post enc Try.prog Try.f6 false true false false) := by
  refine returnsInHanded_of_change (C := Try.checked) own started (by kernel_rfl) Try.func6
    (ChangeSpec.witness6 (enc := enc) (C := Try.checked) false ⟨#[], #[.slice none 0 0], []⟩ 8 (by kernel_rfl) (by kernel_rfl) (by kernel_rfl) (by kernel_rfl)) ?_
  intro W base args ds gs before hval0 hW hcnd _
  have hval : ∀ (j : Nat) t v, Try.f6.params[j]? = some t → args[j]? = some v → Value.okWide Try.prog W .any base t v := hval0
  have hW' := hW
  obtain ⟨p, q, hA0, hV, rfl, hfz, hnd⟩ := hW
  have hA : DataW.TrodAll enc Try.prog W 0 (fun _ => true) true Try.f6.params.toList args.toList ds p := hA0
  rw [Try.params6] at hA hval
  obtain ⟨v0, vs0, d0, ds0, p0, q0, hargs, rfl, rfl, h0, r0⟩ := trodAll_cons hA
  obtain ⟨rfl, rfl, rfl⟩ := trodAll_nil r0
  obtain rfl : args = #[v0] := by cases args; simp_all
  obtain ⟨rfl, rfl⟩ := trodVars_none hV
  have lt0 : ∀ x ∈ p0, x.block < W.heap.size := by obtain ⟨m, hm⟩ := h0; exact DataW.trod_lt m _ _ _ hm
  obtain ⟨la0, n0, c0, X0, S0, O0, rfl, hc0, hn0, hp0⟩ := open_names (hval 0 23 v0 rfl rfl) h0
  clear hA0 hval0
  refine (walk hc0 hn0 hp0).mono fun e W' ⟨he, bel⟩ => ?_
  subst he
  exact ⟨_, rfl, _, _, _, [], _, [], hW', trodAll_mk1 (shut_bool Try.underlying4 _), (trodAll_cons_mk (Below.trod laidOut (by kernel_rfl) (of_decide_eq_true (by kernel_rfl)) h0 bel lt0) trodAll_mk0), rfl, bel.frame _, fun h => by cases h⟩

theorem over : Rows.dirAllRow.holds Try.pinned (OpenSpec.ofChange Rows.dirAllSpec) :=
  OpenClaim.holds_of_wide 6 Try.f6 rfl rfl rfl rfl rfl rfl rfl ⟨rfl, rfl, rfl, rfl, rfl⟩ rfl rfl rfl rfl rfl (by kernel_rfl) Try.func6 (by kernel_rfl)
    (of_decide_eq_true (by kernel_rfl)) (by unfold Func.isWrapper; first | (rw [if_pos (by decide +kernel)]; kernel_rfl) | (rw [if_neg (by decide +kernel)]; exact ⟨rfl, rfl⟩))
    (fun os started H enc _ => lifted os started H enc)

theorem proved : Rows.DirAllSaid :=
  over
#print axioms proved


end Go.Proofs.Ytkkkgikmeiocaaa.dirAll
