/-
  Texts of one layer, one behind the other: memory, contracts of the functions, and what follows of them.
  Conditions: as each theorem says.
-/
import Derived.Test.YtkkkgikmeiocaaaLDij
import Derived.Test.YtkkkgikmeiocaaaLDif
import Derived.Test.YtkkkgikmeiocaaaLHea
import Derived.Test.YtkkkgikmeiocaaaLDii
set_option linter.unusedVariables false
set_option linter.unusedSimpArgs false
namespace Go.Proofs.Ytkkkgikmeiocaaa
open Go.RowKit
set_option maxRecDepth 100000
def SameD (f g : Nat → Nat) : Prop := ∀ x, 3392 ≤ x → x < 3776 → f x = g x
section
variable {f g : Nat → Nat} {h a b p : Nat} {s : ByteArray}
theorem SameD.at_ (e : SameD f g) {j : Nat} (hj : j < 16) : f (dAt j) = g (dAt j) ∧ f (dAt j + 8) = g (dAt j + 8) ∧ f (dAt j + 16) = g (dAt j + 16) := by
  unfold dAt
  exact ⟨e _ (by omega) (by omega), e _ (by omega) (by omega), e _ (by omega) (by omega)⟩
theorem SameD.stF (e : SameD f g) : ∀ n k, stF f h a b n k = stF g h a b n k
  | 0, _ => rfl
  | n + 1, k => by
    obtain ⟨e1, e2, e3⟩ := e.at_ (j := (h + k) % 16) (Nat.mod_lt _ (by decide))
    unfold Go.Proofs.Ytkkkgikmeiocaaa.stF
    rw [e1, e2, e3, SameD.stF e n (k + 1)]
theorem SameD.plF (e : SameD f g) : ∀ n k, plF f h n k = plF g h n k
  | 0, _ => rfl
  | n + 1, k => by
    obtain ⟨e1, e2, e3⟩ := e.at_ (j := (h + k) % 16) (Nat.mod_lt _ (by decide))
    unfold Go.Proofs.Ytkkkgikmeiocaaa.plF
    rw [e3, SameD.plF e n (k + 1)]
theorem SameD.stN (e : SameD f g) : stN f s = stN g s := by unfold Go.Proofs.Ytkkkgikmeiocaaa.stN; rw [e.stF]
theorem SameD.plN (e : SameD f g) : plN f s = plN g s := e.plF 16 0
theorem SameD.roomN (e : SameD f g) : roomN f s = roomN g s := by unfold Go.Proofs.Ytkkkgikmeiocaaa.roomN; rw [e.stN, e.plN]
theorem SameD.putN (e : SameD f g) : putN f s p = putN g s p := by unfold Go.Proofs.Ytkkkgikmeiocaaa.putN; rw [e.roomN]
theorem SameD.putW (e : SameD f g) : SameD (putW f s p) (putW g s p) := by
  unfold Go.Proofs.Ytkkkgikmeiocaaa.putW
  rw [e.putN, e.plN]
  split
  · split
    · intro x h1 h2
      unfold putD
      rw [e x h1 h2]
    · exact e
  · exact e
theorem SameD.drpF (e : SameD f g) : SameD (drpF f s) (drpF g s) := by
  unfold Go.Proofs.Ytkkkgikmeiocaaa.drpF
  rw [e.stN]
  split
  · intro x h1 h2
    unfold dropD
    rw [e x h1 h2]
  · exact e
theorem SameD.fndN (e : SameD f g) : fndN f s = fndN g s := by
  unfold Go.Proofs.Ytkkkgikmeiocaaa.fndN
  rw [e.stN]
  cases hc : Go.Proofs.Ytkkkgikmeiocaaa.stN g s with
  | none => rfl
  | some i => exact (e.at_ (stN_lt hc)).2.2
theorem SameD.nmdF (e : SameD f g) : ∀ n k, n + k ≤ 16 → nmdF f p n k = nmdF g p n k
  | 0, _, _ => rfl
  | n + 1, k, hk => by
    unfold Go.Proofs.Ytkkkgikmeiocaaa.nmdF
    rw [(e.at_ (j := k) (by omega)).2.2, SameD.nmdF e n (k + 1) (by omega)]
theorem SameD.entK (e : SameD f g) : ∀ n, n ≤ 16 → entK f n = entK g n
  | 0, _ => rfl
  | n + 1, hn => by
    obtain ⟨e1, e2, e3⟩ := e.at_ (j := n) (by omega)
    rw [entK_snoc, entK_snoc, SameD.entK e n (by omega)]
    unfold entAt
    rw [e1, e2, e3]
end
theorem fmt_dir {n : Nat} (h : fitsP n 4800) : SameD (txSee (fmt48 n) []) fun _ => 0 := fun x h1 h2 => by
  show getW (fmt48 n) x = 0
  have h3 := h.2.1
  rw [fmt48_yes h, getW_fmt (K := 600) h]
  have e1 : ¬ x = n - 8 := by omega
  have e2 : ¬ x = 3776 := by omega
  have e3 : ¬ x = 32 := by omega
  have e4 : ¬ x = 40 := by omega
  have e5 : ¬ x = 16 := by omega
  have e6 : ¬ x = 8 := by omega
  have e7 : ¬ x = 0 := by omega
  simp only [e1, e2, e3, e4, e5, e6, e7, if_false]
theorem aw13 : ∃ f1 f2 f3 f4, (∀ f, SameD f (fun _ => 0) → putN f ⟨#[97]⟩ 3808 = 0 ∧ SameD (putW f ⟨#[97]⟩ 3808) f1) ∧ (∀ f, SameD f f1 → (stN f ⟨#[97]⟩).isSome = true ∧ SameD (drpF f ⟨#[97]⟩) f2) ∧ (∀ f, SameD f f2 → putN f ⟨#[98]⟩ 3856 = 0 ∧ SameD (putW f ⟨#[98]⟩ 3856) f3) ∧
    (∀ f, SameD f f3 → fndN f ⟨#[98]⟩ = 3856 ∧ (stN f ⟨#[98]⟩).isSome = true ∧ (entK f 16).length = 1 ∧ nmdF f 3856 16 0 = true ∧ putN f ⟨#[98]⟩ 5 = 7 ∧ SameD (putW f ⟨#[98]⟩ 5) f4) ∧ (∀ f, SameD f f4 → roomN f ⟨#[99]⟩ = 0) := by
  refine ⟨_, _, _, _, fun f e => ⟨e.putN.trans ?_, e.putW⟩, fun f e => ⟨(congrArg Option.isSome e.stN).trans ?_, e.drpF⟩, fun f e => ⟨e.putN.trans ?_, e.putW⟩, fun f e => ⟨e.fndN.trans ?_, (congrArg Option.isSome e.stN).trans ?_, (congrArg List.length (e.entK 16 (by decide))).trans ?_, (e.nmdF 16 0 (by decide)).trans ?_, e.putN.trans ?_, e.putW⟩, fun f e => e.roomN.trans ?_⟩
  all_goals decide +kernel
set_option maxHeartbeats 4000000 in
theorem awake13 (w : World) : Calls Try.prog 8 #[] w fun e w' => e = .returned (.bool true) ∧ w.grownBy w' none := by
  have hfo : ∀ V : World, Calls Try.prog 21 #[.int .u64 4000, .slice none 0 0] V _ := fun V => formed13_nil 4000 (by decide) V
  have hws : 8 * (fmt48 4000).length = 4800 := by rw [fmt48_len]
  have hz := fmt_dir (n := 4000) (by unfold fitsP; omega)
  obtain ⟨f1, f2, f3, f4, A1, A2, A3, A4, A5⟩ := aw13
  obtain ⟨n1, z1⟩ := A1 _ hz
  obtain ⟨n2, z2⟩ := A2 _ z1
  obtain ⟨n3, z3⟩ := A3 _ z2
  obtain ⟨n4, n5, n6, n7, n8, z4⟩ := A4 _ z3
  have n9 := A5 _ z4
  obtain ⟨ws, ews⟩ : ∃ ws, fmt48 4000 = ws := ⟨_, rfl⟩
  rw [ews] at hfo hws n1 n2 n3 n4 n5 n6 n7 n8 n9
  obtain ⟨g0, e0⟩ : ∃ g, txSee ws [] = g := ⟨_, rfl⟩
  rw [e0] at n1 n2 n3 n4 n5 n6 n7 n8 n9
  have hput1 : ∀ (V : World) (T : Nat) (R : Option Nat), DF w V T R ws g0 → Calls Try.prog 19 #[.pointer (some ⟨T, 0, none⟩), .string ⟨#[97]⟩, .int .u64 3808] V fun e w' => e = .returned (.int .i64 0) ∧ ∃ R', DF w w' T R' ws (putW g0 ⟨#[97]⟩ 3808) ∧ Keep V R w' R' := fun V T R h => by
    have := dput_c (s := ⟨#[97]⟩) (p := 3808) h (by decide) (by decide)
    rw [n1] at this
    exact this
  obtain ⟨g1, e1⟩ : ∃ g, putW g0 ⟨#[97]⟩ 3808 = g := ⟨_, rfl⟩
  rw [e1] at hput1 n2 n3 n4 n5 n6 n7 n8 n9
  have hdrop : ∀ (V : World) (T : Nat) (R : Option Nat), DF w V T R ws g1 → Calls Try.prog 20 #[.pointer (some ⟨T, 0, none⟩), .string ⟨#[97]⟩] V fun e w' => e = .returned (.bool true) ∧ ∃ R', DF w w' T R' ws (drpF g1 ⟨#[97]⟩) ∧ Keep V R w' R' := fun V T R h => by
    have := ddrop_c (s := ⟨#[97]⟩) h (by decide)
    rw [n2] at this
    exact this
  obtain ⟨g2, e2⟩ : ∃ g, drpF g1 ⟨#[97]⟩ = g := ⟨_, rfl⟩
  rw [e2] at hdrop n3 n4 n5 n6 n7 n8 n9
  have hput2 : ∀ (V : World) (T : Nat) (R : Option Nat), DF w V T R ws g2 → Calls Try.prog 19 #[.pointer (some ⟨T, 0, none⟩), .string ⟨#[98]⟩, .int .u64 3856] V fun e w' => e = .returned (.int .i64 0) ∧ ∃ R', DF w w' T R' ws (putW g2 ⟨#[98]⟩ 3856) ∧ Keep V R w' R' := fun V T R h => by
    have := dput_c (s := ⟨#[98]⟩) (p := 3856) h (by decide) (by decide)
    rw [n3] at this
    exact this
  obtain ⟨g3, e3⟩ : ∃ g, putW g2 ⟨#[98]⟩ 3856 = g := ⟨_, rfl⟩
  rw [e3] at hput2 n4 n5 n6 n7 n8 n9
  have hfind : ∀ (V : World) (T : Nat) (R : Option Nat), DF w V T R ws g3 → Calls Try.prog 10 #[.pointer (some ⟨T, 0, none⟩), .string ⟨#[98]⟩] V fun e w' => e = .returned (.tuple #[.int .u64 3856, .bool true]) ∧ V.grownBy w' none := fun V T R h => by
    have := dfind_c (s := ⟨#[98]⟩) h (by decide)
    rw [n4, n5] at this
    exact this
  have hall : ∀ (V : World) (T : Nat) (R : Option Nat), DF w V T R ws g3 → Calls Try.prog 15 #[.pointer (some ⟨T, 0, none⟩)] V fun e w' => (∃ a c, e = .returned (.slice a 1 c)) ∧ V.grownBy w' none   := fun V T R h => by
    refine (dall_c h).mono ?_
    rintro e w' ⟨v, rfl, h1, h2⟩
    obtain ⟨a, c, rfl⟩ := h1.form
    rw [n6]
    exact ⟨⟨a, c, rfl⟩, h2⟩
  have hnmd : ∀ (V : World) (T : Nat) (R : Option Nat), DF w V T R ws g3 → Calls Try.prog 17 #[.pointer (some ⟨T, 0, none⟩), .int .u64 3856] V fun e w' => e = .returned (.bool true) ∧ V.grownBy w' none := fun V T R h => by
    have := dnamed_c (p := 3856) h (by decide)
    rw [n7] at this
    exact this
  have hput3 : ∀ (V : World) (T : Nat) (R : Option Nat), DF w V T R ws g3 → Calls Try.prog 19 #[.pointer (some ⟨T, 0, none⟩), .string ⟨#[98]⟩, .int .u64 5] V fun e w' => e = .returned (.int .i64 7) ∧ ∃ R', DF w w' T R' ws (putW g3 ⟨#[98]⟩ 5) ∧ Keep V R w' R' := fun V T R h => by
    have := dput_c (s := ⟨#[98]⟩) (p := 5) h (by decide) (by decide)
    rw [n8] at this
    exact this
  obtain ⟨g4, e4⟩ : ∃ g, putW g3 ⟨#[98]⟩ 5 = g := ⟨_, rfl⟩
  rw [e4] at hput3 n9
  have hroom : ∀ (V : World) (T : Nat) (R : Option Nat), DF w V T R ws g4 → Calls Try.prog 12 #[.pointer (some ⟨T, 0, none⟩), .string ⟨#[99]⟩] V fun e w' => e = .returned (.int .i64 0) ∧ V.grownBy w' none := fun V T R h => by
    have := droom_c (s := ⟨#[99]⟩) h (by decide)
    rw [n9] at this
    exact this
  have HP1 := Lib.hid hput1
  have HDR := Lib.hid hdrop
  have HP2 := Lib.hid hput2
  have HFI := Lib.hid hfind
  have HAL := Lib.hid hall
  have HNM := Lib.hid hnmd
  have HP3 := Lib.hid hput3
  have HRO := Lib.hid hroom
  clear hput1 hdrop hput2 hfind hall hnmd hput3 hroom n1 n2 n3 n4 n5 n6 n7 n8 n9 z1 z2 z3 z4 hz A1 A2 A3 A4 A5 e1 e2 e3 e4 ews
  go_enter Try.func8, Try.ntmps8
  go_wp2_with (first
    | (go_at_call 21; go_must ((with_reducible refine (hfo _).mono ?_); rintro e w1 ⟨B, D, T, M, R, wv, pv, rfl, hT, hR, hne⟩; obtain ⟨wa, wn, wc, hwv⟩ := wv_form hR.words; subst hwv; obtain ⟨pa, pn, pc, hpv⟩ := pv_form hR.puts; subst hpv; have ga := World.grownBy_alloc w1 (.cells #[.slice wa wn wc, .slice pa pn pc] 28) none; have D1 : DF w _ T R ws g0 := ⟨hws, M, B, D, [], hT.later ga, e0⟩; have c1 := HP1.out _ _ _ D1))
    | (go_at_call 19; ((with_reducible refine c1.mono ?_); rintro e w2 ⟨rfl, R2, D2, k2⟩; have c2 := HDR.out _ _ _ D2))
    | (go_at_call 20; ((with_reducible refine c2.mono ?_); rintro e w3 ⟨rfl, R3, D3, k3⟩; have c3 := HP2.out _ _ _ D3))
    | (go_at_call 19; ((with_reducible refine c3.mono ?_); rintro e w4 ⟨rfl, R4, D4, k4⟩; have c4 := HFI.out _ _ _ D4))
    | (go_at_call 10; ((with_reducible refine c4.mono ?_); rintro e w5 ⟨rfl, hg5⟩; have D5 := D4.later hg5; have c5 := HAL.out _ _ _ D5))
    | (go_at_call 15; ((with_reducible refine c5.mono ?_); rintro e w6 ⟨⟨aa, ac, rfl⟩, hg6⟩; have D6 := D5.later hg6; have c6 := HNM.out _ _ _ D6))
    | (go_at_call 17; ((with_reducible refine c6.mono ?_); rintro e w7 ⟨rfl, hg7⟩; have D7 := D6.later hg7; have c7 := HP3.out _ _ _ D7))
    | (go_at_call 19; ((with_reducible refine c7.mono ?_); rintro e w8 ⟨rfl, R8, D8, k8⟩; have c8 := HRO.out _ _ _ D8))
    | (go_at_call 12; ((with_reducible refine c8.mono ?_); rintro e w9 ⟨rfl, hg9⟩; have D9 := D8.later hg9)))
  go_ret
  exact ⟨rfl, D9.since⟩
end Go.Proofs.Ytkkkgikmeiocaaa
namespace Go.Proofs.Ytkkkgikmeiocaaa
open Go.RowKit
set_option maxRecDepth 100000
theorem ok_ply {f : Nat → Nat} (H : DirOk NmD f) (X : Nat → Bool) (S : Nat → ByteArray) (O : Nat → Nat) : ∀ k, DirOk NmD (plyW f X S O k)
  | 0 => H
  | k + 1 => by
    have := ok_ply H X S O k
    show DirOk NmD (stpW _ _ _ _)
    unfold stpW
    split
    · exact this
    · split
      · exact ok_drop this
      · exact ok_put this
theorem ok_fmt {n : Nat} (h : fitsP n 4800) : DirOk NmD (txSee (fmt48 n) []) := ok_zero fun j hj => (fmt_dir h).at_ hj |>.2.2
theorem played13_nil {w : World} {la : Option Addr} {n c : Nat} {X : Nat → Bool} {S : Nat → ByteArray} {O : Nat → Nat} (hp : NamesAt w la n X S O) (hn : n ≤ maxLen) : ∃ ws f, DirOk NmD f ∧
    ∀ V, w.grownBy V none → Calls Try.prog 9 #[.slice none 0 0, .slice la n c] V fun e w' => ∃ T R wv pv, e = .returned (.tuple #[.pointer (some ⟨T, 0, none⟩), .agg #[wv, pv], .bool true]) ∧ DF V w' T R ws f ∧ RD w' V.heap.size wv pv ws f 200 ∧ ∀ g, wv.ownBlock = some g → R ≠ some g := by
  refine ⟨fmt48 4480, plyW (txSee (fmt48 4480) []) X S O (min n 40), ok_ply (ok_fmt (by unfold fitsP; omega)) _ _ _ _, fun V hg => ?_⟩
  exact played13_any (n2 := 0) (c2 := 0) (puts_none V) (by decide) (hp.later hg) hn rfl
end Go.Proofs.Ytkkkgikmeiocaaa
