/-
  Texts of one layer, one behind the other: memory, contracts of the functions, and what follows of them.
  Conditions: as each theorem says.
-/
import Derived.Test.YtcngmkfpbcemjaaGreatLSea
import Derived.Test.YtcngmkfpbcemjaaGreatLTab
import Derived.Sort.Grow
import Derived.Deep.RegionHeld3
import Derived.Test.YtcngmkfpbcemjaaGreatLTra
import Derived.Test.YtcngmkfpbcemjaaGreatLTxb
import Derived.Maps.AppendAt
import Derived.Shelf.SlSortCmp.WholeK
import Derived.Test.YtcngmkfpbcemjaaGreatLPha
import Derived.Test.YtcngmkfpbcemjaaGreatLPhd
set_option linter.unusedVariables false
set_option linter.unusedSimpArgs false
namespace Go.Proofs.YtcngmkfpbcemjaaGreat
open Go.RowKit
def cmpN (a b : Nat) : Int := if a < b then -1 else if b < a then 1 else 0
def cmpK (s o s' o' : Nat) : Int := if cmpN s s' = 0 then cmpN o o' else cmpN s s'
theorem cmpN_lt {a b : Nat} (h : a < b) : cmpN a b = -1 := if_pos h
theorem cmpN_gt {a b : Nat} (h : b < a) : cmpN a b = 1 := by unfold cmpN; rw [if_neg (by omega), if_pos h]
theorem cmpN_eq (a : Nat) : cmpN a a = 0 := by unfold cmpN; rw [if_neg (by omega), if_neg (by omega)]
theorem cmpN_three (a b : Nat) : (a < b ∧ cmpN a b = -1) ∨ (b < a ∧ cmpN a b = 1) ∨ (a = b ∧ cmpN a b = 0) := by
  rcases Nat.lt_trichotomy a b with h | h | h
  · exact .inl ⟨h, cmpN_lt h⟩
  · subst h; exact .inr (.inr ⟨rfl, cmpN_eq a⟩)
  · exact .inr (.inl ⟨h, cmpN_gt h⟩)
theorem isnan_any (x : Nat) (w : World) : Calls Tryz.prog 152 #[.int .u64 x] w fun e w' => e = .returned (.bool false) ∧ w = w' := by
  go_enter Tryz.func152, Tryz.ntmps152
  go_wp2
  go_ret
  exact ⟨rfl, rfl⟩
theorem compare_u64 (x y : Nat) (w : World) : Calls Tryz.prog 137 #[.int .u64 x, .int .u64 y] w fun e w' => e = .returned (.int .i64 (cmpN x y)) ∧ w = w' := by
  have hn := fun x => isnan_any x w
  rcases cmpN_three x y with ⟨h, e⟩ | ⟨h, e⟩ | ⟨h, e⟩
  · rw [e]
    have h1 : (x : Int) < (y : Int) := by omega
    go_enter Tryz.func137, Tryz.ntmps137
    go_wp2_with (go_at_call 152; (with_reducible refine (hn _).mono ?_); rintro e w1 ⟨rfl, rfl⟩)
    go_ret
    exact ⟨rfl, rfl⟩
  · rw [e]
    have h1 : ¬ (x : Int) < (y : Int) := by omega
    have h2 : (y : Int) < (x : Int) := by omega
    go_enter Tryz.func137, Tryz.ntmps137
    go_wp2_with (go_at_call 152; (with_reducible refine (hn _).mono ?_); rintro e w1 ⟨rfl, rfl⟩)
    go_ret
    exact ⟨rfl, rfl⟩
  · rw [e]
    subst h
    go_enter Tryz.func137, Tryz.ntmps137
    go_wp2_with (go_at_call 152; (with_reducible refine (hn _).mono ?_); rintro e w1 ⟨rfl, rfl⟩)
    go_ret
    exact ⟨rfl, rfl⟩
theorem or_two (p q : Int) (b c : Nat) (w : World) (h0 : w.cell? ⟨b, 0, none⟩ = some (.int .i64 p)) (h1 : w.cell? ⟨b, 1, none⟩ = some (.int .i64 q)) : Calls Tryz.prog 136 #[.slice (some ⟨b, 0, none⟩) 2 c] w fun e w' => e = .returned (.int .i64 (if p = 0 then q else p)) ∧ w = w' := by
  go_enter Tryz.func136, Tryz.ntmps136
  go_wp2
  go_loop [8] (fun i => ∃ k : Nat, k ≤ 2 ∧ i = .int .i64 k ∧ (1 ≤ k → p = 0) ∧ (k = 2 → q = 0)) (fun i => 2 - (intOf i).toNat)
  case atStart => exact ⟨0, by omega, rfl, by omega, by omega⟩
  case round =>
    obtain ⟨k, hk, rfl, hp, hq⟩ := hrel
    rcases k with _ | _ | _ | k
    · by_cases h : p = 0
      · subst h
        go_wp2
        go_round
        case rel => exact ⟨1, by omega, by go_num, by simp, by omega⟩
        case measure => simp [intOf]
      · go_wp2
        go_ret
        exact ⟨rfl, rfl⟩
    · obtain rfl := hp (by omega)
      by_cases h : q = 0
      · subst h
        go_wp2
        go_round
        case rel => exact ⟨2, by omega, by go_num, by simp, by simp⟩
        case measure => simp [intOf]
      · go_wp2
        go_ret
        exact ⟨by simp, rfl⟩
    · obtain rfl := hp (by omega)
      obtain rfl := hq (by omega)
      go_wp2
      go_ret
      exact ⟨by simp, rfl⟩
    · omega
theorem two_held {w w' : World} {x y : Value} {t : TypeId} {b : Nat} (h : w.heap[b]? = some (.cells #[x, y] t (0, 0))) (hg : w.grownBy w' none) : w'.heap[b]? = some (.cells #[x, y] t (0, 0)) := (hg.block _ (lt_of_block h) (by simp)).trans h
set_option maxHeartbeats 1000000 in
theorem tcompare_any (s o s' o' : Nat) (w : World) : Calls Tryz.prog 110 #[.agg #[.int .u64 s, .int .u64 o], .agg #[.int .u64 s', .int .u64 o']] w fun e w' => e = .returned (.int .i64 (cmpK s o s' o')) ∧ ∃ q os, w' = Go.Sort.grow (w.drewN q) os := by
  have hc := fun x y w => compare_u64 x y w
  have ho := fun p q b c w h0 h1 => or_two p q b c w h0 h1
  unfold cmpK
  obtain ⟨x, ex⟩ : ∃ x, cmpN s s' = x := ⟨_, rfl⟩
  obtain ⟨y, ey⟩ : ∃ y, cmpN o o' = y := ⟨_, rfl⟩
  have hc1 := fun w => compare_u64 s s' w
  have hc2 := fun w => compare_u64 o o' w
  rw [ex] at hc1
  rw [ey] at hc2
  rw [ex, ey]
  have ha : ((w.alloc (.cells #[.int .u64 s, .int .u64 o] 129)).alloc (.cells #[.int .u64 s', .int .u64 o'] 129)).heap[w.heap.size]? = some (.cells #[.int .u64 s, .int .u64 o] 129 (0, 0)) := (Below.heap_alloc _ _ _ (by simp)).trans (heap_alloc_new' w _)
  have hb : ((w.alloc (.cells #[.int .u64 s, .int .u64 o] 129)).alloc (.cells #[.int .u64 s', .int .u64 o'] 129)).heap[w.heap.size + 1]? = some (.cells #[.int .u64 s', .int .u64 o'] 129 (0, 0)) := by
    have := heap_alloc_new' (w.alloc (.cells #[.int .u64 s, .int .u64 o] 129)) (.cells #[.int .u64 s', .int .u64 o'] 129)
    rwa [World.size_alloc] at this
  obtain ⟨W, hW⟩ : ∃ W, (w.alloc (.cells #[.int .u64 s, .int .u64 o] 129)).alloc (.cells #[.int .u64 s', .int .u64 o'] 129) = W := ⟨_, rfl⟩
  rw [hW] at ha hb
  obtain ⟨a0, a1⟩ := two_cells ha
  obtain ⟨b0, b1⟩ := two_cells hb
  clear ha hb
  have hor := or_two x y W.heap.size 2 (W.alloc (.cells #[.int .i64 x, .int .i64 y] 3)).drew (two_cells (heap_alloc_new' W (.cells #[.int .i64 x, .int .i64 y] 3))).1 (two_cells (heap_alloc_new' W (.cells #[.int .i64 x, .int .i64 y] 3))).2
  obtain ⟨r, er⟩ : ∃ r, (if x = 0 then y else x) = r := ⟨_, rfl⟩
  rw [er] at hor ⊢
  clear er
  go_enter Tryz.func110, Tryz.ntmps110
  go_wp2
  go_region_held3 (fun wr => wr.cell? ⟨w.heap.size, 0, none⟩ = some (.int .u64 s) ∧ wr.cell? ⟨w.heap.size, 1, none⟩ = some (.int .u64 o) ∧ wr.cell? ⟨w.heap.size + 1, 0, none⟩ = some (.int .u64 s') ∧ wr.cell? ⟨w.heap.size + 1, 1, none⟩ = some (.int .u64 o')) (go_keep) (first | (go_at_call 137; (with_reducible refine (hc1 _).mono ?_); rintro e w1 ⟨rfl, rfl⟩) | (go_at_call 137; (with_reducible refine (hc2 _).mono ?_); rintro e w1 ⟨rfl, rfl⟩) | (go_at_call 136; (with_reducible refine hor.mono ?_); rintro e w1 ⟨rfl, rfl⟩))
  all_goals go_wp2
  go_ret
  refine ⟨rfl, 1, #[.cells #[.int .u64 s, .int .u64 o] 129, .cells #[.int .u64 s', .int .u64 o'] 129, .cells #[.int .i64 x, .int .i64 y] 3], ?_⟩
  rw [← hW]
  simp only [Go.Sort.alloc_eq_grow, Go.Sort.grow_grow, Go.Sort.drew_grow]
  rfl
theorem grow_grown (w : World) (q : Nat) (os : Array Obj) : w.grownBy (Go.Sort.grow (w.drewN q) os) none where
  os := rfl
  tape := rfl
  output := rfl
  size := by simp [Go.Sort.grow, World.drewN]
  block := fun k hk _ => by
    show (w.heap ++ os)[k]? = _
    rw [Array.getElem?_append_left hk]
theorem tcompare_grown (s o s' o' : Nat) (w : World) : Calls Tryz.prog 110 #[.agg #[.int .u64 s, .int .u64 o], .agg #[.int .u64 s', .int .u64 o']] w fun e w' => e = .returned (.int .i64 (cmpK s o s' o')) ∧ w.grownBy w' none :=
  (tcompare_any s o s' o' w).mono fun _ _ ⟨h1, q, os, h2⟩ => ⟨h1, by rw [h2]; exact grow_grown _ _ _⟩
end Go.Proofs.YtcngmkfpbcemjaaGreat
namespace Go.Proofs.YtcngmkfpbcemjaaGreat
open Go.RowKit
set_option maxRecDepth 100000
theorem wpList_append_num {w2 : World} {ops : Array Oper} {rest : List Oper} {o : Oper} {a : Act} {Q : Exit → Act → World → Prop} (hgd : o.guard = none) (s x : Operand)
    (ho : o.op = .call { callee := .builtin .append, args := #[s, x], argTypes := #[27, 27] })
    (base : Nat) (v : Value) (xs : List Nat) (hs : a.eval s = v) (hown : OwnW w2 base v xs) (y : Nat)
    (hx : a.eval x = .slice (some ⟨w2.heap.size, 0, none⟩) 1 1) (hn : xs.length ≤ 10000000) (hbase : base ≤ w2.heap.size)
    (h : ∀ v' w', OwnW w' base v' (xs ++ [y]) → w2.grownBy w' v.ownBlock → (v'.ownBlock = v.ownBlock ∨ v'.ownBlock = some (w2.heap.size + 1)) → wpList Tryz.prog ops Q rest (a.put o.dst v') w') :
    wpList Tryz.prog ops Q (o :: rest) a (w2.alloc (.cells #[.int .u64 (y : Nat)] 23)) := by
  obtain ⟨i0, hi, hz0, hz1, hz2⟩ := info_parts info_u64
  refine wpList_append_own_at _ hgd s x 27 ho base 23 i0 (.int .u64 0) 1 8 Tryz.underlying27 hi hz0 hz1 hz2 rfl (by decide) v xs.length (cellsU xs) hs (World.ownsRow.alloc hown _) ⟨w2.heap.size, 0, none⟩ 1 1 [.int .u64 (y : Nat)] hx rfl (cell_one_new _ _ _) (by simp [Value.oneCell']) (by unfold maxLen; omega) (by omega) (by rw [World.size_alloc]; omega) fun v' w' h1 h2 _ h4 => h v' w' ?_ (grown_trans (grown_any (World.grownBy_alloc _ _ none) _) h2) (by rw [World.size_alloc] at h4; exact h4)
  unfold OwnW
  have e1 : cellsU (xs ++ [y]) = cellsU xs ++ [.int .u64 (y : Nat)] := by simp [cellsU]
  rw [e1, List.length_append]
  exact h1
section
variable {w : World} {base : Nat} {wv pv : Value} {ws : List Nat} {l : List (Nat × Nat)}
end
end Go.Proofs.YtcngmkfpbcemjaaGreat
namespace Go.Proofs.YtcngmkfpbcemjaaGreat
set_option maxRecDepth 100000
def sortNode_ren : Go.Shelf.Ren := ⟨fun | 6 => 108 | 15 => 135 | 14 => 134 | 28 => 150 | 29 => 151 | 20 => 142 | 21 => 143 | 22 => 144 | 23 => 145 | 24 => 146 | 25 => 147 | 26 => 148 | 27 => 149 | 46 => 154 | 47 => 155 | 48 => 156 | 49 => 157 | 50 => 158 | 57 => 159 | n => n, fun | 22 => 125 | 24 => 131 | 25 => 175 | 3 => 3 | 39 => 178 | 0 => 0 | 53 => 209 | 55 => 23 | 4 => 4 | 46 => 202 | 45 => 201 | 50 => 206 | 5 => 5 | 9 => 9 | 66 => 211 | 70 => 214 | 76 => 216 | 77 => 217 | n => n, fun | n => n⟩
theorem sortNode : Go.Proofs.SlLaysF0.n6 Tryz.prog sortNode_ren where
  mixed := by kernel_rfl
  f6 := ⟨(Tryz.f108).name, by kernel_rfl, Tryz.func108.trans (congrArg some (by kernel_rfl))⟩
  f14 := ⟨(Tryz.f134).name, by kernel_rfl, Tryz.func134.trans (congrArg some (by kernel_rfl))⟩
  f15 := Tryz.func135.trans (congrArg some (by kernel_rfl))
  f20 := ⟨(Tryz.f142).name, by kernel_rfl, Tryz.func142.trans (congrArg some (by kernel_rfl))⟩
  f21 := ⟨(Tryz.f143).name, by kernel_rfl, Tryz.func143.trans (congrArg some (by kernel_rfl))⟩
  f22 := ⟨(Tryz.f144).name, by kernel_rfl, Tryz.func144.trans (congrArg some (by kernel_rfl))⟩
  f23 := ⟨(Tryz.f145).name, by kernel_rfl, Tryz.func145.trans (congrArg some (by kernel_rfl))⟩
  f24 := ⟨(Tryz.f146).name, by kernel_rfl, Tryz.func146.trans (congrArg some (by kernel_rfl))⟩
  f25 := ⟨(Tryz.f147).name, by kernel_rfl, Tryz.func147.trans (congrArg some (by kernel_rfl))⟩
  f26 := ⟨(Tryz.f148).name, by kernel_rfl, Tryz.func148.trans (congrArg some (by kernel_rfl))⟩
  f27 := ⟨(Tryz.f149).name, by kernel_rfl, Tryz.func149.trans (congrArg some (by kernel_rfl))⟩
  f28 := Tryz.func150.trans (congrArg some (by kernel_rfl))
  f29 := Tryz.func151.trans (congrArg some (by kernel_rfl))
  f46 := ⟨(Tryz.f154).name, by kernel_rfl, Tryz.func154.trans (congrArg some (by kernel_rfl))⟩
  f47 := Tryz.func155.trans (congrArg some (by kernel_rfl))
  f48 := Tryz.func156.trans (congrArg some (by kernel_rfl))
  f49 := ⟨(Tryz.f157).name, by kernel_rfl, Tryz.func157.trans (congrArg some (by kernel_rfl))⟩
  f50 := ⟨(Tryz.f158).name, by kernel_rfl, Tryz.func158.trans (congrArg some (by kernel_rfl))⟩
  f57 := ⟨(Tryz.f159).name, by kernel_rfl, Tryz.func159.trans (congrArg some (by kernel_rfl))⟩
  t0 := Tryz.underlying0
  a0 := Tryz.isAgg0
  z0 := Tryz.sizeOf0
  v0 := Tryz.zeroValue0
  t3 := Tryz.underlying3
  a3 := Tryz.isAgg3
  z3 := Tryz.sizeOf3
  v3 := Tryz.zeroValue3
  t4 := Tryz.underlying4
  a4 := Tryz.isAgg4
  z4 := Tryz.sizeOf4
  v4 := Tryz.zeroValue4
  t5 := Tryz.underlying5
  a5 := Tryz.isAgg5
  z5 := Tryz.sizeOf5
  v5 := Tryz.zeroValue5
  t9 := Tryz.underlying9
  a9 := Tryz.isAgg9
  z9 := Tryz.sizeOf9
  v9 := Tryz.zeroValue9
  t22 := Tryz.underlying125
  a22 := Tryz.isAgg125
  z22 := Tryz.sizeOf125
  v22 := Tryz.zeroValue125
  t25 := Tryz.underlying175
  a25 := Tryz.isAgg175
  z25 := Tryz.sizeOf175
  v25 := Tryz.zeroValue175
  t39 := Tryz.underlying178
  a39 := Tryz.isAgg178
  z39 := Tryz.sizeOf178
  v39 := Tryz.zeroValue178
  t45 := Tryz.underlying201
  a45 := Tryz.isAgg201
  z45 := Tryz.sizeOf201
  v45 := Tryz.zeroValue201
  t46 := Tryz.underlying202
  a46 := Tryz.isAgg202
  z46 := Tryz.sizeOf202
  v46 := Tryz.zeroValue202
  t50 := Tryz.underlying206
  a50 := Tryz.isAgg206
  z50 := Tryz.sizeOf206
  v50 := Tryz.zeroValue206
  t53 := Tryz.underlying209
  a53 := Tryz.isAgg209
  z53 := Tryz.sizeOf209
  v53 := Tryz.zeroValue209
  t55 := Tryz.underlying23
  a55 := Tryz.isAgg23
  z55 := Tryz.sizeOf23
  v55 := Tryz.zeroValue23
  t66 := Tryz.underlying211
  a66 := Tryz.isAgg211
  z66 := Tryz.sizeOf211
  v66 := Tryz.zeroValue211
  t70 := Tryz.underlying214
  a70 := Tryz.isAgg214
  z70 := Tryz.sizeOf214
  v70 := Tryz.zeroValue214
  t76 := Tryz.underlying216
  a76 := Tryz.isAgg216
  z76 := Tryz.sizeOf216
  v76 := Tryz.zeroValue216
  t77 := Tryz.underlying217
  a77 := Tryz.isAgg217
  z77 := Tryz.sizeOf217
  v77 := Tryz.zeroValue217
end Go.Proofs.YtcngmkfpbcemjaaGreat
namespace Go.Proofs.YtcngmkfpbcemjaaGreat
open Go.RowKit
theorem fmt4800 : fitsP 4800 4800 := by unfold fitsP; omega
section
variable {l : List (Nat × Nat)} {off n : Nat}
structure FreeL (l : List Nat) : Prop where
  on : ∀ x, x ∈ l → x % 16 = 0 ∧ 3776 ≤ x ∧ x + 48 ≤ 4800
  apart : l.Pairwise fun x y => x + 48 ≤ y
theorem FreeL.nodup {k : List Nat} (h : FreeL k) : k.Nodup := h.apart.imp fun h => by omega
theorem far_of : ∀ {k : List Nat}, k.Pairwise (fun x y => x + 48 ≤ y) → ∀ {x y : Nat}, x ∈ k → y ∈ k → x ≠ y → x + 48 ≤ y ∨ y + 48 ≤ x
  | [], _, x, y, hx, _, _ => by simp at hx
  | a :: k, h, x, y, hx, hy, hn => by
    have h' := List.pairwise_cons.1 h
    rcases List.mem_cons.1 hx with ex | kx
    · rcases List.mem_cons.1 hy with ey | ky
      · omega
      · rw [ex]; exact .inl (h'.1 y ky)
    · rcases List.mem_cons.1 hy with ey | ky
      · rw [ey]; exact .inr (h'.1 x kx)
      · exact far_of h'.2 kx ky hn
theorem FreeL.far {k : List Nat} (h : FreeL k) {x y : Nat} (hx : x ∈ k) (hy : y ∈ k) (hn : x ≠ y) : x + 48 ≤ y ∨ y + 48 ≤ x := far_of h.apart hx hy hn
end
end Go.Proofs.YtcngmkfpbcemjaaGreat
namespace Go.Proofs.YtcngmkfpbcemjaaGreat
open Go.RowKit
theorem rk_inj_of (a b C D M : Int) (h1 : (C * D) % M = 1 % M) (ha : a % M = a) (hb : b % M = b) (h : (a * C) % M = (b * C) % M) : a = b := by
  have h2 : (a * C * D) % M = (b * C * D) % M := by rw [Int.mul_emod (a * C), h, ← Int.mul_emod]
  have key : ∀ x : Int, x % M = x → (x * C * D) % M = x := by
    intro x hx
    rw [Int.mul_assoc, Int.mul_emod, h1, ← Int.mul_emod, Int.mul_one, hx]
  rw [← key a ha, ← key b hb, h2]
theorem nat_u64 (x : Nat) (hx : x < 18446744073709551616) : (x : Int) % 18446744073709551616 = x := Int.emod_eq_of_lt (by omega) (by omega)
theorem wrap_nat (y : Int) : IntKind.u64.wrap y = ((IntKind.u64.wrap y).toNat : Nat) := by rw [IntKind.wrap_u64]; omega
def rkN (x : Nat) : Nat := (IntKind.u64.wrap ((x : Int) * 11400714819323198485)).toNat
theorem rkN_wrap (x : Nat) : IntKind.u64.wrap ((x : Int) * 11400714819323198485) = (rkN x : Nat) := wrap_nat _
theorem rkN_inj {x y : Nat} (hx : x < 18446744073709551616) (hy : y < 18446744073709551616) (h : rkN x = rkN y) : x = y := by
  have h2 : IntKind.u64.wrap ((x : Int) * 11400714819323198485) = IntKind.u64.wrap ((y : Int) * 11400714819323198485) := by rw [rkN_wrap, rkN_wrap, h]
  simp only [IntKind.wrap_u64] at h2
  exact Int.ofNat.inj (rk_inj_of x y 11400714819323198485 17428512612931826493 18446744073709551616 (by decide +kernel) (nat_u64 x hx) (nat_u64 y hy) h2)
section
variable {f g rk : Nat → Nat} {F l : List Nat} {r x y : Nat}
theorem FreeL.sons (h : FreeL F) (hx : x ∈ F) {n : Nat} : stands (fmt48 n) x ∧ stands (fmt48 n) (x + 8) ∧ stands (fmt48 n) (x + 16) ∧ x < 18446744073709551616 := by
  obtain ⟨h1, h2, h3⟩ := h.on x hx
  exact ⟨stands48 (by omega) (by omega), stands48 (by omega) (by omega), stands48 (by omega) (by omega), by omega⟩
theorem FreeL.else_ (h : FreeL F) (hx : x ∈ F) (hy : y ∈ F) (hg : ∀ k, k ≠ y + 8 → k ≠ y + 16 → k ≠ 32 → g k = f k) : g x = f x ∧ (x ≠ y → g (x + 8) = f (x + 8) ∧ g (x + 16) = f (x + 16)) := by
  obtain ⟨h1, h2, h3⟩ := h.on x hx
  obtain ⟨k1, k2, k3⟩ := h.on y hy
  have hne : x ≠ y + 16 := fun e => by
    rcases h.far hx hy (by omega) with h4 | h4 <;> omega
  refine ⟨hg x (by omega) hne (by omega), fun hn => ?_⟩
  have hf := h.far hx hy hn
  exact ⟨hg _ (by omega) (by omega) (by omega), hg _ (by omega) (by omega) (by omega)⟩
theorem TreeOf.past (h : TreeOf f rk r l) (hF : FreeL F) (hl : ∀ x, x ∈ l → x ∈ F) (hy : y ∈ F) (hn : y ∉ l) (hg : ∀ k, k ≠ y + 8 → k ≠ y + 16 → k ≠ 32 → g k = f k) : TreeOf g rk r l :=
  h.frame fun x hx => (hF.else_ (hl x hx) hy hg).2 fun e => hn (e ▸ hx)
structure TreeIs (f z : Nat → Nat) (F l : List Nat) : Prop where
  free : FreeL F
  sub : ∀ x, x ∈ l → x ∈ F
  nodup : l.Nodup
  tree : TreeOf f rkN (f 32) (srtK z l)
theorem TreeIs.perm {z : Nat → Nat} {k : List Nat} (h : TreeIs f z F l) (hp : l.Perm k) : TreeIs f z F k :=
  ⟨h.free, fun x hx => h.sub x (hp.mem_iff.2 hx), hp.nodup_iff.1 h.nodup, by rw [← srtK_of_perm hp h.nodup]; exact h.tree⟩
theorem TreeIs.nil {z : Nat → Nat} (h : FreeL F) (h0 : f 32 = 0) : TreeIs f z F [] := ⟨h, by simp, by simp, by rw [h0]; exact TreeOf.nil⟩
theorem TreeIs.same {z : Nat → Nat} (h : TreeIs f z F l) (k : TreeIs g z F l) : f 32 = g 32 ∧ ∀ x, x ∈ l → f (x + 8) = g (x + 8) ∧ f (x + 16) = g (x + 16) := by
  obtain ⟨h1, h2⟩ := h.tree.same k.tree
  exact ⟨h1, fun x hx => h2 x (srtK_mem.2 hx)⟩
end
end Go.Proofs.YtcngmkfpbcemjaaGreat
