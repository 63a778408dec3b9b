/-
  Texts of one layer, one behind the other: memory, contracts of the functions, and what follows of them.
  Conditions: as each theorem says.
-/
import Derived.Test.YtmcnpenihoaajaaGreatLCla
import Derived.Test.YtmcnpenihoaajaaGreatLTxa
import Derived.StillTailTactics
import Derived.RangeFuncCalls
import Derived.TacticsInMore
import Derived.OrdersIn
import Derived.Test.YtmcnpenihoaajaaGreatLSea
import Derived.Test.YtmcnpenihoaajaaGreatLTra
import Derived.Deep.QuietTactic
import Derived.BigQuiet
import Derived.Laws.StructEq
import Derived.Deep.AppendLies
import Derived.Laws.AppendOwnNone
import Derived.Test.YtmcnpenihoaajaaGreatRows
import Derived.Lib.SmallJoins
import Derived.Deep.SlicePairs
import Derived.ProofKit
import Derived.OpenShut
import Derived.Carry
import Derived.ChangeOld
import Derived.SizedLaws
import Derived.Test.YtmcnpenihoaajaaGreatLTaa
import Derived.Test.YtmcnpenihoaajaaGreatLPha
import Derived.Test.YtmcnpenihoaajaaGreatLPhb
import Derived.Deep.RegionHeld3
set_option linter.unusedVariables false
set_option linter.unusedSimpArgs false
namespace Go.Proofs.YtmcnpenihoaajaaGreat
open Go.RowKit Go.Shelf
set_option maxRecDepth 100000
attribute [local go_sem] Oper.semAt_some
theorem few_places : ∀ (n : Nat) (xs : List Nat), xs.Nodup → (∀ x ∈ xs, x % 8 = 0 ∧ x < 8 * n) → xs.length ≤ n
  | 0, xs, _, h => by
    cases xs with
    | nil => exact Nat.le_refl _
    | cons x r => have := h x (by simp); omega
  | n + 1, xs, hn, h => by
    have h1 := few_places n (xs.erase (8 * n)) (hn.erase _) (fun x hx => by
      obtain ⟨h2, h3⟩ := hn.mem_erase_iff.1 hx
      have := h x h3
      omega)
    by_cases hm : 8 * n ∈ xs
    · rw [List.length_erase_of_mem hm] at h1; omega
    · rw [List.erase_of_not_mem hm] at h1; omega
def LdK (n tb : Nat) (p c : Value) (A C : World) : Prop := Below n A C ∧ (Boxed A tb 66 p → Boxed C tb 66 p) ∧ (Boxed A (tb + 1) 3 c → Boxed C (tb + 1) 3 c)
theorem LdK.refl (n tb : Nat) (p c : Value) (A : World) : LdK n tb p c A A := ⟨Below.refl _ _, id, id⟩
theorem LdK.trans {n tb : Nat} {p c : Value} {A C E : World} (h : LdK n tb p c A C) (k : LdK n tb p c C E) : LdK n tb p c A E := ⟨h.1.trans k.1, fun b => k.2.1 (h.2.1 b), fun b => k.2.2 (h.2.2 b)⟩
theorem LdK.put {n tb : Nat} {p c : Value} {w0 : World} (hn : n ≤ w0.heap.size) (hb : tb + 1 < w0.heap.size) (W : World) (l : Nat) (o o' : Obj) (hl : w0.heap.size ≤ l) (h : W.heap[l]? = some o) (hc : o.isCells = false) (hw : o.isWalk = false) : LdK n tb p c W (W.putObj l o') :=
  ⟨belowK_b (w := w0) hn W l o o' hl h hc hw, fun b => by
    unfold Boxed at b ⊢
    rw [World.putObj_heap_other (by omega)]
    exact b, fun b => by
    unfold Boxed at b ⊢
    rw [World.putObj_heap_other (by omega)]
    exact b⟩
theorem lblocks_any (p : Option Addr) (c : Int) (w : World) : Calls Tryz.prog 166 #[.pointer p, .int .i64 c] w fun e w' => e = .returned (.func (.func 204) #[] #[.pointer (some ⟨w.heap.size, 0, none⟩), .pointer (some ⟨w.heap.size + 1, 0, none⟩)]) ∧ (w.alloc (.cells #[.pointer p] 66)).alloc (.cells #[.int .i64 c] 3) = w' := by
  go_enter Tryz.func166, Tryz.ntmps166
  go_wp2
  go_ret
  exact ⟨by simp, rfl⟩
theorem OwnW.snoc {w : World} {base : Nat} {v : Value} {xs : List Nat} {y : Nat} (h : w.ownsRow base 22 1 v (xs.length + 1) (cellsU xs ++ [.int .u64 (y : Nat)])) : OwnW w base v (xs ++ [y]) := by
  unfold OwnW
  have e1 : cellsU (xs ++ [y]) = cellsU xs ++ [.int .u64 (y : Nat)] := by simp [cellsU]
  rw [e1, List.length_append]
  exact h
theorem own_num {base : Nat} {A : World} {v : Value} {xs : List Nat} {g : Nat} (h : OwnW A base v xs) (hg : v.ownBlock = some g) : base ≤ g ∧ g < A.heap.size ∧ ∃ c fr, A.heap[g]? = some (.cells c 22 fr) := by
  obtain ⟨_, cur, hb⟩ := row_block h hg
  exact ⟨(World.ownsRow.lt h g hg).1, (World.ownsRow.lt h g hg).2, cur, _, hb⟩
structure ListI (w : World) (f : Nat → Nat) (pre : List Nat) (W : World) : Prop where
  row : ∃ v, Boxed W w.heap.size 34 v ∧ OwnW W w.heap.size v (pre.map f)
  below : Below w.heap.size w W
  big : w.heap.size + 3 ≤ W.heap.size
theorem ListI.own (w : World) (n : Nat) (f : Nat → Nat) (hn : w.heap.size ≤ n) : OwnFrom n (ListI w f) := fun pre X Y row hs hg hr => by
  have hc : ∀ {b : Nat} {c : Array Value} {t : TypeId} {fr : Nat × Nat}, X.heap[b]? = some (.cells c t fr) → row ≠ some b := fun h e => by
    obtain ⟨_, o, ho, hc⟩ := hr _ e
    rw [h] at ho; cases ho; cases hc
  obtain ⟨v, h1, h2⟩ := hs.row
  refine ⟨⟨v, h1.kept hg (fun e => hc h1 e.symm), ?_⟩, hs.below.grown hg hs.below.size (fun k e => Nat.le_trans hn (hr k e).1), Nat.le_trans hs.big hg.size⟩
  refine World.ownsRow.kept h2 hg ?_
  by_cases e : v.ownBlock = none
  · exact .inl e
  · refine .inr fun e2 => ?_
    obtain ⟨g, hg2⟩ := Option.ne_none_iff_exists'.1 e
    obtain ⟨_, _, c, fr, h3⟩ := own_num h2 hg2
    exact hc h3 (by rw [← e2, hg2])
end Go.Proofs.YtmcnpenihoaajaaGreat
namespace Go.Proofs.YtmcnpenihoaajaaGreat
open Go.RowKit
set_option maxRecDepth 100000
theorem atZ_nat (xs : List Nat) (k : Nat) : atZ xs k = xs.getD k 0 := by
  unfold atZ
  rw [if_neg (by omega)]
  rfl
theorem atZ_pred (xs : List Nat) (k : Nat) : atZ xs ((k : Int) - 1) = if k = 0 then 0 else xs.getD (k - 1) 0 := by
  unfold atZ
  by_cases h : k = 0
  · rw [if_pos (by omega), if_pos h]
  · rw [if_neg (by omega), if_neg h]
    congr 1
    omega
set_option maxHeartbeats 8000000 in
theorem lcheck_any {w : World} {T M B D n c : Nat} {R : Option Nat} {ws : List Nat} {l : List (Nat × Nat)} {la : Option Addr} {xs : List Nat} (h : Thinks w T M R B D ws l) (hm : ws.length ≤ 131072) (hw : WordsAt w la xs) (hn : xs.length = n) (hln : n ≤ 1000000) (hx64 : ∀ i, xs.getD i 0 < 18446744073709551616) (d : Int) :
    Calls Tryz.prog 127 #[.pointer (some ⟨T, 0, none⟩), .int .i64 d, .slice la n c] w fun e w' => e = .returned (.bool (decide (ckL (txSee ws l) (cGet ws l d 8) xs))) ∧ w.grownBy w' none := by
  have hpl := places_any la n c w
  obtain ⟨W1, hW1⟩ : ∃ W1, w.alloc (.cells #[.slice la n c] 34) = W1 := ⟨_, rfl⟩
  have hg0 : w.grownBy W1 none := by rw [← hW1]; exact World.grownBy_alloc _ _ _
  have hbx : ∀ V, W1.grownBy V none → V.cell? ⟨w.heap.size, 0, none⟩ = some (.slice la n c) := fun V hg => by
    have h1 : W1.heap[w.heap.size]? = some (.cells #[.slice la n c] 34 (0, 0)) := by rw [← hW1]; exact heap_alloc_new' _ _
    have h2 := (hg.block _ (lt_of_block h1) (by simp)).trans h1
    exact cell_of_one h2
  rw [hW1] at hpl
  have hhd := fun (V : World) (hg : W1.grownBy V none) => chead_any (h.later (grown_trans hg0 hg)) d
  have hat := fun (V : World) (hg : W1.grownBy V none) (i : Int) => places1_any (hbx V hg) (hw.later (grown_trans hg0 hg)) hn i
  have hld := fun (V : World) (hg : W1.grownBy V none) (q : Nat) (hq : q < 18446744073709551616) => txload_any (h.later (grown_trans hg0 hg)) q hq
  obtain ⟨f, hf⟩ : ∃ f, txSee ws l = f := ⟨_, rfl⟩
  obtain ⟨x, hx⟩ : ∃ x, cGet ws l d 8 = x := ⟨_, rfl⟩
  obtain ⟨b, hb⟩ : ∃ b, w.heap.size = b := ⟨_, rfl⟩
  rw [hx] at hhd
  rw [hf] at hld
  rw [hf, hx]
  rw [hb] at hat hpl
  have hiff := ckL_iff f x xs
  rw [headD_get, hn] at hiff
  have hws := fun (V : World) (hg : W1.grownBy V none) => hw.later (grown_trans hg0 hg)
  have HAT := Lib.hid hat
  have hat0 : ∀ V : World, W1.grownBy V none → Calls Tryz.prog 205 #[.int .i64 0, .pointer (some ⟨b, 0, none⟩)] V _ := fun V hg => HAT.out V hg 0
  have e00 : atZ xs 0 = xs.getD 0 0 := atZ_nat xs 0
  rw [e00] at hat0
  have HN := Lib.hid hn
  have HW := Lib.hid hws
  have HI := Lib.hid hiff
  have HLD := Lib.hid hld
  have H64 := Lib.hid hx64
  clear h hw hx hf hW1 hbx hb hat hiff hws hld hx64 e00 hn
  obtain ⟨y, hy⟩ : ∃ y, xs.getD 0 0 = y := ⟨_, rfl⟩
  rw [hy] at HI hat0
  have HG : W1.grownBy W1 none := grown_refl _ _
  by_cases hxy : x = y
  · subst hxy
    have exy : ((x : Int) != (x : Int)) = false := by simp
    go_enter Tryz.func127, Tryz.ntmps127
    go_wp2_with (first | (go_at_call 167; (with_reducible refine hpl.mono ?_); rintro e w1 ⟨rfl, rfl⟩) | (go_at_call 168; (with_reducible refine (hhd _ HG).mono ?_); rintro e w2 ⟨rfl, hg2⟩; replace HG := grown_trans HG hg2) | (go_at_call 205; (with_reducible refine (hat0 _ HG).mono ?_); rintro e w3 ⟨rfl, hg3⟩; replace HG := grown_trans HG hg3))
    clear hhd hpl hat0
    go_loopw [20] (fun i wr => ∃ k : Nat, k ≤ n ∧ i = .int .i64 k ∧ W1.grownBy wr none ∧ ∀ j, j < k → ckAt f xs j) (fun i _ => n - (intOf i).toNat)
    case atStart => exact ⟨0, Nat.zero_le _, rfl, HG, fun j hj => absurd hj (Nat.not_lt_zero _)⟩
    case round =>
      obtain ⟨k, hk, rfl, hgr, hall⟩ := hrel
      have HA := Lib.hid hall
      clear hall HG
      by_cases hkn : k < n
      · have hkn' : (k : Int) < (n : Int) := by omega
        obtain ⟨bb, off, rfl, hbb, hcs⟩ := (HW.out wr hgr).cells (by rw [HN.out]; omega)
        have u0 := hcs k (by rw [HN.out]; exact hkn)
        obtain ⟨z, hz⟩ : ∃ z, xs.getD k 0 = z := ⟨_, rfl⟩
        have hz64 := H64.out k
        rw [hz] at u0 hz64
        obtain ⟨z16, hz16⟩ : ∃ q, (z + 16) % 18446744073709551616 = q := ⟨_, rfl⟩
        obtain ⟨z24, hz24⟩ : ∃ q, (z + 24) % 18446744073709551616 = q := ⟨_, rfl⟩
        have e16 : IntKind.u64.wrap ((z : Int) + 16) = (z16 : Nat) := by rw [IntKind.wrap_u64]; omega
        have e24 : IntKind.u64.wrap ((z : Int) + 24) = (z24 : Nat) := by rw [IntKind.wrap_u64]; omega
        have hl16 := fun (V : World) (hg : W1.grownBy V none) => HLD.out V hg z16 (by omega)
        have hl24 := fun (V : World) (hg : W1.grownBy V none) => HLD.out V hg z24 (by omega)
        have han := fun (V : World) (hg : W1.grownBy V none) => HAT.out V hg ((k : Int) + 1)
        have hap := fun (V : World) (hg : W1.grownBy V none) => HAT.out V hg ((k : Int) - 1)
        have en : atZ xs ((k : Int) + 1) = xs.getD (k + 1) 0 := atZ_nat xs (k + 1)
        rw [en] at han
        rw [atZ_pred] at hap
        obtain ⟨r, hr⟩ : ∃ r, f z16 = r := ⟨_, rfl⟩
        obtain ⟨t, ht⟩ : ∃ t, f z24 = t := ⟨_, rfl⟩
        rw [hr] at hl16
        rw [ht] at hl24
        obtain ⟨nx, hnx⟩ : ∃ nx, xs.getD (k + 1) 0 = nx := ⟨_, rfl⟩
        obtain ⟨ah, hah⟩ : ∃ ah, (if k = 0 then 0 else xs.getD (k - 1) 0) = ah := ⟨_, rfl⟩
        have hck : ckAt f xs k ↔ r = nx ∧ t = ah := by
          unfold ckAt
          rw [hz, hz16, hz24, hr, ht, hnx, hah]
        rw [hnx] at han
        rw [hah] at hap
        have HCK := Lib.hid hck
        clear hck hz16 hz24 hr ht hz hz64 hnx hah en hcs
        have HG := hgr
        by_cases hrn : r = nx
        · subst hrn
          have e1 : ((r : Int) != (r : Int)) = false := by simp
          by_cases hta : t = ah
          · subst hta
            have e2 : ((t : Int) != (t : Int)) = false := by simp
            go_wp2_with (first | (go_at_call 66; (with_reducible refine (hl16 _ HG).mono ?_); rintro e w4 ⟨rfl, hg4⟩; replace HG := grown_trans HG hg4) | (go_at_call 205; (with_reducible refine (han _ HG).mono ?_); rintro e w5 ⟨rfl, hg5⟩; replace HG := grown_trans HG hg5) | (go_at_call 66; (with_reducible refine (hl24 _ HG).mono ?_); rintro e w4 ⟨rfl, hg4⟩; replace HG := grown_trans HG hg4) | (go_at_call 205; (with_reducible refine (hap _ HG).mono ?_); rintro e w5 ⟨rfl, hg5⟩; replace HG := grown_trans HG hg5))
            exact ⟨⟨k + 1, by omega, by go_num, HG, fun j hj => by
              rcases Nat.lt_succ_iff_lt_or_eq.1 hj with h9 | rfl
              · exact HA.out j h9
              · exact HCK.out.2 (by simp)⟩, by simp [intOf]; omega⟩
          · have hta' : ¬ (t : Int) = (ah : Int) := by omega
            have e2 : ((t : Int) != (ah : Int)) = true := by simp; omega
            go_wp2_with (first | (go_at_call 66; (with_reducible refine (hl16 _ HG).mono ?_); rintro e w4 ⟨rfl, hg4⟩; replace HG := grown_trans HG hg4) | (go_at_call 205; (with_reducible refine (han _ HG).mono ?_); rintro e w5 ⟨rfl, hg5⟩; replace HG := grown_trans HG hg5) | (go_at_call 66; (with_reducible refine (hl24 _ HG).mono ?_); rintro e w4 ⟨rfl, hg4⟩; replace HG := grown_trans HG hg4) | (go_at_call 205; (with_reducible refine (hap _ HG).mono ?_); rintro e w5 ⟨rfl, hg5⟩; replace HG := grown_trans HG hg5))
            go_ret
            refine ⟨?_, grown_trans hg0 HG⟩
            rw [decide_eq_false (fun hck => hta (HCK.out.1 ((HI.out.1 hck).2 _ hkn)).2)]
            rfl
        · have hrn' : ¬ (r : Int) = (nx : Int) := by omega
          have e1 : ((r : Int) != (nx : Int)) = true := by simp; omega
          go_wp2_with (first | (go_at_call 66; (with_reducible refine (hl16 _ HG).mono ?_); rintro e w4 ⟨rfl, hg4⟩; replace HG := grown_trans HG hg4) | (go_at_call 205; (with_reducible refine (han _ HG).mono ?_); rintro e w5 ⟨rfl, hg5⟩; replace HG := grown_trans HG hg5))
          go_ret
          refine ⟨?_, grown_trans hg0 HG⟩
          rw [decide_eq_false (fun hck => hrn (HCK.out.1 ((HI.out.1 hck).2 _ hkn)).1)]
          rfl
      · obtain rfl : k = n := by omega
        have hkn' : ¬ (k : Int) < (k : Int) := by omega
        go_wp2
        go_ret
        refine ⟨?_, grown_trans hg0 hgr⟩
        rw [decide_eq_true (HI.out.2 ⟨by simp, fun i hi => HA.out i hi⟩)]
        rfl
  · have hxy' : ¬ (x : Int) = (y : Int) := by omega
    have exy : ((x : Int) != (y : Int)) = true := by simp; omega
    rw [decide_eq_false (fun hck => hxy (HI.out.1 hck).1)]
    go_enter Tryz.func127, Tryz.ntmps127
    go_wp2_with (first | (go_at_call 167; (with_reducible refine hpl.mono ?_); rintro e w1 ⟨rfl, rfl⟩) | (go_at_call 168; (with_reducible refine (hhd _ HG).mono ?_); rintro e w2 ⟨rfl, hg2⟩; replace HG := grown_trans HG hg2) | (go_at_call 205; (with_reducible refine (hat0 _ HG).mono ?_); rintro e w3 ⟨rfl, hg3⟩; replace HG := grown_trans HG hg3))
    go_ret
    exact ⟨rfl, grown_trans hg0 HG⟩
end Go.Proofs.YtmcnpenihoaajaaGreat
namespace Go.Proofs.YtmcnpenihoaajaaGreat
open Go.RowKit
set_option maxRecDepth 100000
section
variable {w0 w : World} {T off m k : Nat} {R : Option Nat} {U : List Nat} {tg : Nat → Nat} {L : Nat → List Nat} {la : Option Addr}
end
theorem hn1 (x0 x1 : Nat) (h : x0 ≠ x1) (d : Nat) (_ : d < 8) : x1 ∉ setL (fun _ => []) 1 [x0] d := by
  unfold setL
  split
  · simp; exact fun e => h e.symm
  · simp
end Go.Proofs.YtmcnpenihoaajaaGreat
