/-
  Texts of one layer, one behind the other: memory, contracts of the functions, and what follows of them.
  Conditions: as each theorem says.
-/
import Derived.Test.YtkkkgikmeiocaaaLDii
import Derived.Test.YtkkkgikmeiocaaaLDia
import Derived.Test.YtkkkgikmeiocaaaLDif
import Derived.Deep.RegionLaw
import Derived.Deep.RegionHeld3
set_option linter.unusedVariables false
set_option linter.unusedSimpArgs false
namespace Go.Proofs.Ytkkkgikmeiocaaa
open Go.RowKit
set_option maxRecDepth 100000
def stpW (f : Nat → Nat) (x : Bool) (s : ByteArray) (o : Nat) : Nat → Nat := if 100 < s.size then f else if x then drpF f s else putW f s o
def plyW (f : Nat → Nat) (X : Nat → Bool) (S : Nat → ByteArray) (O : Nat → Nat) : Nat → (Nat → Nat)
  | 0 => f
  | k + 1 => stpW (plyW f X S O k) (X k) (S k) (O k)
structure DRel (w0 : World) (T bx rb : Nat) (wv : Value) (ws : List Nat) (f g : Nat → Nat) (K : Nat) (wr : World) : Prop where
  tx : ∃ R, DF w0 wr T R ws f ∧ ∀ g, wv.ownBlock = some g → R ≠ some g
  box : ∃ pv, wr.heap[bx]? = some (.cells #[wv, pv] 28 (0, 0)) ∧ RD wr w0.heap.size wv pv ws g K
  res : wr.heap[rb]? = some (.cells #[.slice none 0 0, .slice none 0 0] 28 (0, 0))
section
variable {w0 w w' wr : World} {T bx rb K : Nat} {wv : Value} {ws : List Nat} {f g f' : Nat → Nat} {s : ByteArray} {p : Nat}
theorem DRel.later (h : DRel w0 T bx rb wv ws f g K wr) (hg : wr.grownBy w' none) : DRel w0 T bx rb wv ws f g K w' := by
  obtain ⟨⟨R, h1, h2⟩, ⟨pv, h3, h4⟩, h5⟩ := h
  exact ⟨⟨R, h1.later hg, h2⟩, ⟨pv, (hg.block _ (lt_of_block h3) (by simp)).trans h3, h4.later hg⟩, (hg.block _ (lt_of_block h5) (by simp)).trans h5⟩
theorem DRel.since (h : DRel w0 T bx rb wv ws f g K wr) : w0.grownBy wr none := by
  obtain ⟨⟨R, h1, h2⟩, _⟩ := h
  exact h1.since
theorem DRel.step {R R' : Option Nat} (h : DRel w0 T bx rb wv ws f g K wr) (h2 : ∀ g, wv.ownBlock = some g → R ≠ some g) (h5 : DF w0 w' T R' ws f') (k : Keep wr R w' R') : DRel w0 T bx rb wv ws f' g K w' := by
  obtain ⟨_, ⟨pv, h3, h0, l, h4, h6, h7⟩, h8⟩ := h
  have hk : KW wr R w0.heap.size wv ws := ⟨h4.words, h2⟩
  have hk2 := k.row hk
  exact ⟨⟨R', h5, hk2.2⟩, ⟨pv, k.far h3 (by decide) (by decide), h0, l, ⟨hk2.1, k.puts h4.puts⟩, h6, h7⟩, k.far h8 (by decide) (by decide)⟩
theorem DRel.drop (h : DRel w0 T bx rb wv ws f g K wr) (hs : s.size ≤ maxLen) :
    Calls Try.prog 20 #[.pointer (some ⟨T, 0, none⟩), .string s] wr fun e w' => e = .returned (.bool (stN f s).isSome) ∧ DRel w0 T bx rb wv ws (drpF f s) g K w' := by
  obtain ⟨R, h1, h2⟩ := h.tx
  refine (ddrop_c h1 hs).mono ?_
  rintro e w' ⟨rfl, R', h5, k⟩
  exact ⟨rfl, h.step h2 h5 k⟩
theorem DRel.put (h : DRel w0 T bx rb wv ws f g K wr) (hs : s.size ≤ maxLen) (hp : p < 18446744073709551616) :
    Calls Try.prog 19 #[.pointer (some ⟨T, 0, none⟩), .string s, .int .u64 (p : Nat)] wr fun e w' => e = .returned (.int .i64 (putN f s p : Nat)) ∧ DRel w0 T bx rb wv ws (putW f s p) g K w' := by
  obtain ⟨R, h1, h2⟩ := h.tx
  refine (dput_c h1 hs hp).mono ?_
  rintro e w' ⟨rfl, R', h5, k⟩
  exact ⟨rfl, h.step h2 h5 k⟩
theorem DRel.stored {pv' : Value} {w4 : World} {g' : Nat → Nat} {K' : Nat} (h : DRel w0 T bx rb wv ws f g K wr) (hg : wr.grownBy w4 none) (hr : RD w4 w0.heap.size wv pv' ws g' K') (hbx : w0.heap.size ≤ bx) (hrb : rb ≠ bx) :
    DRel w0 T bx rb wv ws f g' K' ((w4.setCell ⟨bx, 0, none⟩ wv).setCell ⟨bx, 1, none⟩ pv') := by
  obtain ⟨⟨R, ⟨h0, M, B, D, l, h1, h6⟩, h2⟩, ⟨pv, h3, _⟩, h8⟩ := h
  have h3' := (hg.block _ (lt_of_block h3) (by simp)).trans h3
  have h8' := (hg.block _ (lt_of_block h8) (by simp)).trans h8
  have hs := two_set (w := w4) (b := bx) (x' := wv) (y' := pv')
  exact ⟨⟨R, ⟨h0, M, B, D, l, (h1.later hg).other h3' hbx hs, h6⟩, h2⟩, ⟨pv', two_put h3', hr.other h3' hs⟩, (hs.block _ (lt_of_block h8') (by simpa using hrb)).trans h8'⟩
theorem RD.mono {base base' : Nat} {pv : Value} (h : RD w base wv pv ws f K) (hb : base' ≤ base) : RD w base' wv pv ws f K := by
  obtain ⟨h0, l, h1, h2, h3⟩ := h
  exact ⟨h0, l, ⟨h1.words.mono hb, World.ownsRow.mono h1.puts hb⟩, h2, h3⟩
theorem DF.from {R : Option Nat} (h : DF w w' T R ws f) (hg : w0.grownBy w none) : DF w0 w' T R ws f := by
  obtain ⟨h0, M, B, D, l, h1, h2⟩ := h
  exact ⟨h0, M, B, D, l, ⟨h1.tx, grown_trans hg h1.since, Nat.le_trans hg.size h1.newT, Nat.le_trans hg.size h1.newM, fun g e => Nat.le_trans hg.size (h1.newR g e), Nat.le_trans hg.size h1.newB, Nat.le_trans hg.size h1.newD⟩, h2⟩
theorem thinkD_len (ws : List Nat) (X V : Nat → Nat) : ∀ k, (thinkL ws X V k).length ≤ k
  | 0 => by simp [thinkL]
  | k + 1 => by
    have h1 := thinkD_len ws X V k
    have h2 := txStore_len ws (thinkL ws X V k) (X k) (V k)
    show (txStore ws (thinkL ws X V k) (X k) (V k)).length ≤ k + 1
    omega
theorem putN_le : putN f s p ≤ 9 := by
  unfold putN roomN
  repeat' split
  all_goals omega
end
section
variable {w : World} {la lk : Option Addr} {n c n2 c2 : Nat} {X : Nat → Bool} {S : Nat → ByteArray} {O X2 V2 : Nat → Nat}
set_option maxHeartbeats 8000000 in
theorem played13_any (hp2 : PutsAt w lk n2 X2 V2) (hn2 : n2 ≤ maxLen) (hp : NamesAt w la n X S O) (hn : n ≤ maxLen) {f0 : Nat → Nat} (hf0 : txSee (fmt48 4480) (thinkL (fmt48 4480) X2 V2 (min n2 60)) = f0) :
    Calls Try.prog 9 #[.slice lk n2 c2, .slice la n c] w fun e w' => ∃ T R wv pv, e = .returned (.tuple #[.pointer (some ⟨T, 0, none⟩), .agg #[wv, pv], .bool true]) ∧ DF w w' T R (fmt48 4480) (plyW f0 X S O (min n 40)) ∧ RD w' w.heap.size wv pv (fmt48 4480) (plyW f0 X S O (min n 40)) 200 ∧ ∀ g, wv.ownBlock = some g → R ≠ some g := by
  have hfo := fun (V : World) (hg : w.grownBy V none) => formed13_any (n := 4480) (c2 := c2) (by decide) (hp2.later hg) hn2
  have hws : 8 * (fmt48 4480).length = 4800 := by rw [fmt48_len]
  have hlen := thinkD_len (fmt48 4480) X2 V2 (min n2 60)
  obtain ⟨ws, ews⟩ : ∃ ws, fmt48 4480 = ws := ⟨_, rfl⟩
  rw [ews] at hfo hws hf0 hlen ⊢
  obtain ⟨l0, el0⟩ : ∃ l, thinkL ws X2 V2 (min n2 60) = l := ⟨_, rfl⟩
  rw [el0] at hfo hf0 hlen
  have hg0 := World.grownBy_alloc w (.cells #[.slice none 0 0, .slice none 0 0] 28) none
  have hr0 := heap_alloc_new' w (.cells #[.slice none 0 0, .slice none 0 0] 28)
  have hfo' : Calls Try.prog 21 #[.int .u64 4480, .slice lk n2 c2] (w.alloc (.cells #[.slice none 0 0, .slice none 0 0] 28)) _ := hfo _ hg0
  have HP := Lib.hid hp
  have HR0 := Lib.hid hr0
  have HG0 := Lib.hid hg0
  have hwsz : w.heap.size + 1 = (w.alloc (.cells #[.slice none 0 0, .slice none 0 0] 28)).heap.size := by simp
  obtain ⟨N, eN⟩ : ∃ N, min n 40 = N := ⟨_, rfl⟩
  have hN : N ≤ n ∧ N ≤ 40 ∧ (N = n ∨ N = 40) := by omega
  rw [eN]
  have HN := Lib.hid hN
  clear eN hN
  clear ews el0 hfo hp2 hp hr0
  go_enter Try.func9, Try.ntmps9
  go_wp2_with (first
    | (go_at_call 21; go_must ((with_reducible refine hfo'.mono ?_); rintro e w1 ⟨B, D, T, M, R, wv, pv, rfl, hT, hR, hne⟩; obtain ⟨wa, wn, wc, hwv⟩ := wv_form hR.words; subst hwv; obtain ⟨pa, pn, pc, hpv⟩ := pv_form hR.puts; subst hpv)))
  have hgx := World.grownBy_alloc w1 (.cells #[.slice wa wn wc, .slice pa pn pc] 28) none
  have hs1 := hT.since
  have hbx : w.heap.size + 1 ≤ w1.heap.size := by have := hs1.size; omega
  have D0 : DRel w T w1.heap.size w.heap.size (.slice wa wn wc) ws f0 f0 (60 + 3 * 0) (w1.alloc (.cells #[.slice wa wn wc, .slice pa pn pc] 28)) :=
    ⟨⟨R, (DF.from ⟨hws, M, B, D, l0, hT.later hgx, hf0⟩ HG0.out), hne⟩, ⟨_, heap_alloc_new' _ _, (RD.mono ⟨hws, l0, hR.later hgx, by omega, hf0⟩ (by omega))⟩, ((grown_trans hs1 hgx).block _ (lt_of_block HR0.out) (by simp)).trans HR0.out⟩
  have HD0 := Lib.hid D0
  obtain ⟨bx, ebx⟩ : ∃ b, w1.heap.size = b := ⟨_, rfl⟩
  rw [ebx] at HD0 hbx
  simp only [ebx]
  clear hgx hT hR hne hfo' D0 ebx hws hlen hf0 hwsz hs1 HR0
  go_loopw [9, 10] (fun b i wr => b = .bool true ∧ ∃ k : Nat, k ≤ N ∧ i = .int .i64 k ∧ DRel w T bx w.heap.size (.slice wa wn wc) ws (plyW f0 X S O k) (plyW f0 X S O k) (60 + 3 * k) wr) (fun _ i _ => N - (intOf i).toNat)
  case atStart => exact ⟨rfl, 0, Nat.zero_le _, rfl, HD0.out⟩
  case round =>
    obtain ⟨rfl, k, hk, rfl, HK⟩ := hrel
    clear HD0
    have hN := HN.out
    by_cases hlt : k < N
    · have hgw := HK.since
      obtain ⟨b, off, rfl, hb, hcs⟩ := (HP.out.later hgw).cells (by omega)
      have hcl : ∀ w', w.grownBy w' none → w'.cell? ⟨b, off + k * 3, none⟩ = some (.bool (X k)) ∧ w'.cell? ⟨b, off + k * 3 + 1, none⟩ = some (.string (S k)) ∧ w'.cell? ⟨b, off + k * 3 + 2, none⟩ = some (.int .u64 (O k : Nat)) ∧ b < w'.heap.size := fun w' hg => by
        obtain ⟨b', off', e, hbw, h⟩ := (HP.out.later hg).cells (by omega)
        injection e with e
        injection e with e1 e2
        subst e1
        subst e2
        obtain ⟨h1, h2, h3⟩ := h k (by omega)
        exact ⟨h1, h2, h3, hbw⟩
      have hlk := HP.out.lt k
      have hply : plyW f0 X S O (k + 1) = stpW (plyW f0 X S O k) (X k) (S k) (O k) := rfl
      obtain ⟨x, ex⟩ : ∃ x, X k = x := ⟨_, rfl⟩
      obtain ⟨s, es⟩ : ∃ s, S k = s := ⟨_, rfl⟩
      obtain ⟨o, eo⟩ : ∃ o, O k = o := ⟨_, rfl⟩
      obtain ⟨fk, efk⟩ : ∃ f, plyW f0 X S O k = f := ⟨_, rfl⟩
      rw [ex, es, eo] at hcl
      rw [es, eo] at hlk
      rw [ex, es, eo, efk] at hply
      rw [efk] at HK
      have HCL := Lib.hid hcl
      have HPLY := Lib.hid hply
      have hki : (k : Int) < (n : Int) := by omega
      have hk40 : (k : Int) < 40 := by omega
      have hk1 : IntKind.i64.wrap ((k : Int) + 1) = ((k + 1 : Nat) : Int) := by rw [IntKind.wrap_i64]; omega
      have hms : N - (k + 1) < N - k := by omega
      obtain ⟨c0, c1, c2', _⟩ := hcl _ hgw
      clear hcl hcs ex es eo efk hply hN
      by_cases hsz : 100 < s.size
      · have hszi : (100 : Int) < (s.size : Int) := by omega
        have hst : plyW f0 X S O (k + 1) = fk := by rw [HPLY.out]; unfold stpW; rw [if_pos hsz]
        have HST := Lib.hid hst
        clear hst hsz
        go_wp2
        go_roundw
        case rel =>
          refine ⟨rfl, k + 1, by omega, by go_num, ?_⟩
          rw [HST.out]
          obtain ⟨h1, ⟨pv, h2, h3⟩, h4⟩ := HK
          exact ⟨h1, ⟨pv, h2, h3.more (by omega)⟩, h4⟩
        case measure => simp [intOf]; omega
      · have hszi : ¬ (100 : Int) < (s.size : Int) := by omega
        cases x with
        | true =>
          have hst : plyW f0 X S O (k + 1) = drpF fk s := by rw [HPLY.out]; unfold stpW; rw [if_neg hsz]; rfl
          have hde := HK.drop hlk.1
          obtain ⟨bb, ebb⟩ : ∃ b, (stN fk s).isSome = b := ⟨_, rfl⟩
          have hee : (bb == bb) = true := by simp
          rw [ebb] at hde
          have hrd : ∀ (V : World) (pv : Value), RD V w.heap.size (.slice wa wn wc) pv ws fk (60 + 3 * k) → w.heap.size ≤ V.heap.size → Calls Try.prog 22 #[.agg #[.slice wa wn wc, pv], .string s] V fun e w' => ∃ pv', e = .returned (.tuple #[.agg #[.slice wa wn wc, pv'], .bool bb]) ∧ RD w' w.heap.size (.slice wa wn wc) pv' ws (drpF fk s) (60 + 3 * (k + 1)) ∧ V.grownBy w' none := fun V pv h hb => by
            have := rdrop13 h hb (by omega) hlk.1
            rw [ebb] at this
            refine this.mono ?_
            rintro e w' ⟨pv', h1, h2, h3⟩
            exact ⟨pv', h1, h2.more (by omega), h3⟩
          obtain ⟨F, eF⟩ : ∃ F, drpF fk s = F := ⟨_, rfl⟩
          rw [eF] at hst hde hrd
          have HST := Lib.hid hst
          have HRD := Lib.hid hrd
          have hrbx : w.heap.size ≠ bx := by omega
          have hbxw : w.heap.size ≤ bx := by omega
          clear hst hrd eF ebb hsz HPLY
          go_wp2_with (first | (go_at_call 20; go_must ((with_reducible refine hde.mono ?_); rintro e w3 ⟨rfl, Q⟩; obtain ⟨z0, z1, z2, z3⟩ := HCL.out w3 Q.since)))
          have hg3 := Q.since
          obtain ⟨pv3, hbox, hrt⟩ := Q.box
          obtain ⟨pa3, pn3, pc3, rfl⟩ := hrt.form.2
          obtain ⟨d0, d1, _, _⟩ := tx_cells hbox
          have hHD : ∀ V : World, w3.grownBy V none → Calls Try.prog 22 #[.agg #[.slice wa wn wc, .slice pa3 pn3 pc3], .string s] V _ := fun V hg => HRD.out V _ (hrt.later hg) (grown_trans hg3 hg).size
          have hcell : ∀ {V : World}, w3.grownBy V none → V.cell? ⟨bx, 0, none⟩ = some (.slice wa wn wc) ∧ V.cell? ⟨bx, 1, none⟩ = some (.slice pa3 pn3 pc3) ∧ V.frozen? ⟨bx, 0, none⟩ = false ∧ V.frozen? ⟨bx, 1, none⟩ = false ∧ V.cell? ⟨b, off + k * 3 + 1, none⟩ = some (.string s) ∧ V.cell? ⟨b, off + k * 3 + 2, none⟩ = some (.int .u64 (o : Nat)) := fun {V} hg => by
            obtain ⟨h1, h2, h3, h4⟩ := tx_cells ((hg.block _ (lt_of_block hbox) (by simp)).trans hbox)
            obtain ⟨_, q1, q2, _⟩ := HCL.out V (grown_trans hg3 hg)
            exact ⟨h1, h2, h3, h4, q1, q2⟩
          have hb3 : bx < w3.heap.size := lt_of_block hbox
          have hnb : w3.heap.size ≠ b := by omega
          have hnx : w3.heap.size ≠ bx := by omega
          have HQ := Lib.hid Q
          have HB := Lib.hid hbox
          clear Q hbox hrt HK hde c0 c1 c2' z0 z1 z2 d0 d1 HRD
          obtain ⟨m0, m1, m2, m3, m4, m5⟩ := hcell (grown_drew (grown_refl w3 none))
          have HG : w3.grownBy w3.drew none := grown_drew (grown_refl _ _)
          have HA0 : w3.grownBy (w3.alloc (.cells #[.slice none 0 0, .slice none 0 0] 28)) none := World.grownBy_alloc _ _ _
          have HA : w3.grownBy (w3.alloc (.cells #[.slice none 0 0, .slice none 0 0] 28)).drew none := grown_drew HA0
          obtain ⟨n0, n1, n2, n3, n4, n5⟩ := hcell HA0
          go_region_held3 (fun V => V.cell? ⟨bx, 0, none⟩ = some (.slice wa wn wc) ∧ V.cell? ⟨bx, 1, none⟩ = some (.slice pa3 pn3 pc3) ∧ V.cell? ⟨b, off + k * 3 + 1, none⟩ = some (.string s) ∧ V.cell? ⟨b, off + k * 3 + 2, none⟩ = some (.int .u64 (o : Nat))) (go_keep)
            (first | (go_at_call 22; ((with_reducible refine (hHD _ HG).mono ?_); rintro e w4 ⟨pv4, rfl, hr4, hg4⟩; obtain ⟨pa4, pn4, pc4, rfl⟩ := hr4.form.2; obtain ⟨p0, p1, p2, p3, p4, p5⟩ := hcell (grown_trans HG hg4); obtain ⟨o0, o1, o2, o3, o4, o5⟩ := hcell (grown_trans (grown_trans HG hg4) (World.grownBy_alloc w4 (.cells #[.slice none 0 0, .slice none 0 0] 28) none)))) | (go_at_call 22; ((with_reducible refine (hHD _ HA).mono ?_); rintro e w4 ⟨pv4, rfl, hr4, hg4⟩; obtain ⟨pa4, pn4, pc4, rfl⟩ := hr4.form.2; obtain ⟨p0, p1, p2, p3, p4, p5⟩ := hcell (grown_trans HA hg4); have hyb := (hg4.block _ (lt_of_block (heap_alloc_new' w3 _)) (by simp)).trans (heap_alloc_new' w3 (.cells #[.slice none 0 0, .slice none 0 0] 28)); obtain ⟨y0, y1, y2, y3⟩ := tx_cells hyb)))
          all_goals rename_i hHeld
          · have gY : w3.grownBy (w4.alloc (.cells #[.slice wa wn wc, .slice pa4 pn4 pc4] 28)) none := grown_trans (grown_trans HG hg4) (World.grownBy_alloc w4 (.cells #[.slice wa wn wc, .slice pa4 pn4 pc4] 28) none)
            have rY := hr4.later (World.grownBy_alloc w4 (.cells #[.slice wa wn wc, .slice pa4 pn4 pc4] 28) none)
            have cY : (w4.alloc (.cells #[.slice wa wn wc, .slice pa4 pn4 pc4] 28)).heap[w4.heap.size]? = some (.cells #[.slice wa wn wc, .slice pa4 pn4 pc4] 28 (0, 0)) := heap_alloc_new' w4 _
            obtain ⟨vY, hvY⟩ : ∃ v, w4.alloc (.cells #[.slice wa wn wc, .slice pa4 pn4 pc4] 28) = v := ⟨_, rfl⟩
            obtain ⟨yb, hyb2⟩ : ∃ y, w4.heap.size = y := ⟨_, rfl⟩
            rw [hvY] at gY rY cY ⊢
            rw [hyb2] at cY ⊢
            clear hvY hyb2
            obtain ⟨u0, u1, _, _⟩ := tx_cells cY
            obtain ⟨k0', k1', k2', k3', _, _⟩ := hcell gY
            clear hHeld m0 m1 m2 m3 m4 m5 n0 n1 n2 n3 n4 n5 p0 p1 p2 p3 p4 p5 hHD hr4 HG HA HA0 hg4
            have R5 := HQ.out.stored gY rY hbxw hrbx
            have HR5 := Lib.hid R5
            clear R5
            go_wp2
            go_roundw
            case rel => exact ⟨rfl, k + 1, by omega, by go_num, by rw [HST.out]; exact HR5.out⟩
            case measure => simp [intOf]; omega
          · have hset := two_set (w := w4) (b := w3.heap.size) (x' := .slice wa wn wc) (y' := .slice pa4 pn4 pc4)
            have gY : w3.grownBy ((w4.setCell ⟨w3.heap.size, 0, none⟩ (.slice wa wn wc)).setCell ⟨w3.heap.size, 1, none⟩ (.slice pa4 pn4 pc4)) none := grown_new (grown_trans (grown_any (grown_trans HA hg4) _) hset) (Nat.le_refl _)
            have rY := hr4.other hyb hset
            have cY : ((w4.setCell ⟨w3.heap.size, 0, none⟩ (.slice wa wn wc)).setCell ⟨w3.heap.size, 1, none⟩ (.slice pa4 pn4 pc4)).heap[w3.heap.size]? = some (.cells #[.slice wa wn wc, .slice pa4 pn4 pc4] 28 (0, 0)) := two_put hyb
            obtain ⟨vY, hvY⟩ : ∃ v, (w4.setCell ⟨w3.heap.size, 0, none⟩ (.slice wa wn wc)).setCell ⟨w3.heap.size, 1, none⟩ (.slice pa4 pn4 pc4) = v := ⟨_, rfl⟩
            obtain ⟨yb, hyb2⟩ : ∃ y, w3.heap.size = y := ⟨_, rfl⟩
            rw [hvY] at gY rY cY ⊢
            rw [hyb2] at cY ⊢
            clear hvY hyb2
            obtain ⟨u0, u1, _, _⟩ := tx_cells cY
            obtain ⟨k0', k1', k2', k3', _, _⟩ := hcell gY
            clear hHeld m0 m1 m2 m3 m4 m5 n0 n1 n2 n3 n4 n5 p0 p1 p2 p3 p4 p5 hHD hr4 HG HA HA0 hg4
            have R5 := HQ.out.stored gY rY hbxw hrbx
            have HR5 := Lib.hid R5
            clear R5
            go_wp2
            go_roundw
            case rel => exact ⟨rfl, k + 1, by omega, by go_num, by rw [HST.out]; exact HR5.out⟩
            case measure => simp [intOf]; omega
        | false =>
          have hst : plyW f0 X S O (k + 1) = putW fk s o := by rw [HPLY.out]; unfold stpW; rw [if_neg hsz]; rfl
          have HGp : wr.grownBy wr.drew none := grown_drew (grown_refl _ _)
          have hde := (HK.later HGp).put hlk.1 hlk.2
          have hen9 := putN_le (f := fk) (s := s) (p := o)
          obtain ⟨en, ebb⟩ : ∃ e, putN fk s o = e := ⟨_, rfl⟩
          have hee : ((en : Int) == (en : Int)) = true := by simp
          rw [ebb] at hen9
          have hew : IntKind.i64.wrap (en : Int) = (en : Int) := by rw [IntKind.wrap_i64]; omega
          rw [ebb] at hde
          have hrd : ∀ (V : World) (pv : Value), RD V w.heap.size (.slice wa wn wc) pv ws fk (60 + 3 * k) → w.heap.size ≤ V.heap.size → Calls Try.prog 23 #[.agg #[.slice wa wn wc, pv], .string s, .int .u64 (o : Nat)] V fun e w' => ∃ pv', e = .returned (.tuple #[.agg #[.slice wa wn wc, pv'], .int .i64 (en : Nat)]) ∧ RD w' w.heap.size (.slice wa wn wc) pv' ws (putW fk s o) (60 + 3 * (k + 1)) ∧ V.grownBy w' none := fun V pv h hb => by
            have := rput13 h hb (by omega) hlk.1 hlk.2
            rw [ebb] at this
            refine this.mono ?_
            rintro e w' ⟨pv', h1, h2, h3⟩
            exact ⟨pv', h1, h2.more (by omega), h3⟩
          obtain ⟨F, eF⟩ : ∃ F, putW fk s o = F := ⟨_, rfl⟩
          rw [eF] at hst hde hrd
          have HST := Lib.hid hst
          have HRD := Lib.hid hrd
          have hrbx : w.heap.size ≠ bx := by omega
          have hbxw : w.heap.size ≤ bx := by omega
          clear hst hrd eF ebb hsz HPLY
          go_wp2
          obtain ⟨c0, c1, c2', _⟩ := HCL.out _ (grown_trans hgw HGp)
          go_region_held3 (fun V => V.cell? ⟨b, off + k * 3 + 1, none⟩ = some (.string s) ∧ V.cell? ⟨b, off + k * 3 + 2, none⟩ = some (.int .u64 (o : Nat))) (first | exact ⟨c1, c2'⟩ | assumption) (first | (go_at_call 19; go_must ((with_reducible refine hde.mono ?_); rintro e w3 ⟨rfl, Q⟩; obtain ⟨z0, z1, z2, z3⟩ := HCL.out w3 Q.since; have hz := And.intro z1 z2)))
          go_wp2
          have hg3 := Q.since
          obtain ⟨pv3, hbox, hrt⟩ := Q.box
          obtain ⟨pa3, pn3, pc3, rfl⟩ := hrt.form.2
          obtain ⟨d0, d1, _, _⟩ := tx_cells hbox
          have hHD : ∀ V : World, w3.grownBy V none → Calls Try.prog 23 #[.agg #[.slice wa wn wc, .slice pa3 pn3 pc3], .string s, .int .u64 (o : Nat)] V _ := fun V hg => HRD.out V _ (hrt.later hg) (grown_trans hg3 hg).size
          have hcell : ∀ {V : World}, w3.grownBy V none → V.cell? ⟨bx, 0, none⟩ = some (.slice wa wn wc) ∧ V.cell? ⟨bx, 1, none⟩ = some (.slice pa3 pn3 pc3) ∧ V.frozen? ⟨bx, 0, none⟩ = false ∧ V.frozen? ⟨bx, 1, none⟩ = false ∧ V.cell? ⟨b, off + k * 3 + 1, none⟩ = some (.string s) ∧ V.cell? ⟨b, off + k * 3 + 2, none⟩ = some (.int .u64 (o : Nat)) := fun {V} hg => by
            obtain ⟨h1, h2, h3, h4⟩ := tx_cells ((hg.block _ (lt_of_block hbox) (by simp)).trans hbox)
            obtain ⟨_, q1, q2, _⟩ := HCL.out V (grown_trans hg3 hg)
            exact ⟨h1, h2, h3, h4, q1, q2⟩
          have hb3 : bx < w3.heap.size := lt_of_block hbox
          have hnb : w3.heap.size ≠ b := by omega
          have hnx : w3.heap.size ≠ bx := by omega
          have HQ := Lib.hid Q
          have HB := Lib.hid hbox
          clear Q hbox hrt HK hde c0 c1 c2' z0 z1 z2 d0 d1 HRD
          obtain ⟨m0, m1, m2, m3, m4, m5⟩ := hcell (grown_drew (grown_refl w3 none))
          have HG : w3.grownBy w3.drew none := grown_drew (grown_refl _ _)
          have HA0 : w3.grownBy (w3.alloc (.cells #[.slice none 0 0, .slice none 0 0] 28)) none := World.grownBy_alloc _ _ _
          have HA : w3.grownBy (w3.alloc (.cells #[.slice none 0 0, .slice none 0 0] 28)).drew none := grown_drew HA0
          obtain ⟨n0, n1, n2, n3, n4, n5⟩ := hcell HA0
          go_region_held3 (fun V => V.cell? ⟨bx, 0, none⟩ = some (.slice wa wn wc) ∧ V.cell? ⟨bx, 1, none⟩ = some (.slice pa3 pn3 pc3) ∧ V.cell? ⟨b, off + k * 3 + 1, none⟩ = some (.string s) ∧ V.cell? ⟨b, off + k * 3 + 2, none⟩ = some (.int .u64 (o : Nat))) (go_keep)
            (first | (go_at_call 23; ((with_reducible refine (hHD _ HG).mono ?_); rintro e w4 ⟨pv4, rfl, hr4, hg4⟩; obtain ⟨pa4, pn4, pc4, rfl⟩ := hr4.form.2; obtain ⟨p0, p1, p2, p3, p4, p5⟩ := hcell (grown_trans HG hg4); obtain ⟨o0, o1, o2, o3, o4, o5⟩ := hcell (grown_trans (grown_trans HG hg4) (World.grownBy_alloc w4 (.cells #[.slice none 0 0, .slice none 0 0] 28) none)))) | (go_at_call 23; ((with_reducible refine (hHD _ HA).mono ?_); rintro e w4 ⟨pv4, rfl, hr4, hg4⟩; obtain ⟨pa4, pn4, pc4, rfl⟩ := hr4.form.2; obtain ⟨p0, p1, p2, p3, p4, p5⟩ := hcell (grown_trans HA hg4); have hyb := (hg4.block _ (lt_of_block (heap_alloc_new' w3 _)) (by simp)).trans (heap_alloc_new' w3 (.cells #[.slice none 0 0, .slice none 0 0] 28)); obtain ⟨y0, y1, y2, y3⟩ := tx_cells hyb)))
          all_goals rename_i hHeld
          · have gY : w3.grownBy (w4.alloc (.cells #[.slice wa wn wc, .slice pa4 pn4 pc4] 28)) none := grown_trans (grown_trans HG hg4) (World.grownBy_alloc w4 (.cells #[.slice wa wn wc, .slice pa4 pn4 pc4] 28) none)
            have rY := hr4.later (World.grownBy_alloc w4 (.cells #[.slice wa wn wc, .slice pa4 pn4 pc4] 28) none)
            have cY : (w4.alloc (.cells #[.slice wa wn wc, .slice pa4 pn4 pc4] 28)).heap[w4.heap.size]? = some (.cells #[.slice wa wn wc, .slice pa4 pn4 pc4] 28 (0, 0)) := heap_alloc_new' w4 _
            obtain ⟨vY, hvY⟩ : ∃ v, w4.alloc (.cells #[.slice wa wn wc, .slice pa4 pn4 pc4] 28) = v := ⟨_, rfl⟩
            obtain ⟨yb, hyb2⟩ : ∃ y, w4.heap.size = y := ⟨_, rfl⟩
            rw [hvY] at gY rY cY ⊢
            rw [hyb2] at cY ⊢
            clear hvY hyb2
            obtain ⟨u0, u1, _, _⟩ := tx_cells cY
            obtain ⟨k0', k1', k2', k3', _, _⟩ := hcell gY
            clear hHeld m0 m1 m2 m3 m4 m5 n0 n1 n2 n3 n4 n5 p0 p1 p2 p3 p4 p5 hHD hr4 HG HA HA0 hg4
            have R5 := HQ.out.stored gY rY hbxw hrbx
            have HR5 := Lib.hid R5
            clear R5
            go_wp2
            go_roundw
            case rel => exact ⟨rfl, k + 1, by omega, by go_num, by rw [HST.out]; exact HR5.out⟩
            case measure => simp [intOf]; omega
          · have hset := two_set (w := w4) (b := w3.heap.size) (x' := .slice wa wn wc) (y' := .slice pa4 pn4 pc4)
            have gY : w3.grownBy ((w4.setCell ⟨w3.heap.size, 0, none⟩ (.slice wa wn wc)).setCell ⟨w3.heap.size, 1, none⟩ (.slice pa4 pn4 pc4)) none := grown_new (grown_trans (grown_any (grown_trans HA hg4) _) hset) (Nat.le_refl _)
            have rY := hr4.other hyb hset
            have cY : ((w4.setCell ⟨w3.heap.size, 0, none⟩ (.slice wa wn wc)).setCell ⟨w3.heap.size, 1, none⟩ (.slice pa4 pn4 pc4)).heap[w3.heap.size]? = some (.cells #[.slice wa wn wc, .slice pa4 pn4 pc4] 28 (0, 0)) := two_put hyb
            obtain ⟨vY, hvY⟩ : ∃ v, (w4.setCell ⟨w3.heap.size, 0, none⟩ (.slice wa wn wc)).setCell ⟨w3.heap.size, 1, none⟩ (.slice pa4 pn4 pc4) = v := ⟨_, rfl⟩
            obtain ⟨yb, hyb2⟩ : ∃ y, w3.heap.size = y := ⟨_, rfl⟩
            rw [hvY] at gY rY cY ⊢
            rw [hyb2] at cY ⊢
            clear hvY hyb2
            obtain ⟨u0, u1, _, _⟩ := tx_cells cY
            obtain ⟨k0', k1', k2', k3', _, _⟩ := hcell gY
            clear hHeld m0 m1 m2 m3 m4 m5 n0 n1 n2 n3 n4 n5 p0 p1 p2 p3 p4 p5 hHD hr4 HG HA HA0 hg4
            have R5 := HQ.out.stored gY rY hbxw hrbx
            have HR5 := Lib.hid R5
            clear R5
            go_wp2
            go_roundw
            case rel => exact ⟨rfl, k + 1, by omega, by go_num, by rw [HST.out]; exact HR5.out⟩
            case measure => simp [intOf]; omega
    · obtain rfl : k = N := by omega
      obtain ⟨⟨R, h1, h2⟩, ⟨pv, h3, h4⟩, h5⟩ := HK
      obtain ⟨pa6, pn6, pc6, rfl⟩ := h4.form.2
      have hd : ∀ V, wr.grownBy V none → V.cell? ⟨bx, 0, none⟩ = some (.slice wa wn wc) ∧ V.cell? ⟨bx, 1, none⟩ = some (.slice pa6 pn6 pc6) := fun V hg => by
        obtain ⟨d0, d1, _, _⟩ := tx_cells ((hg.block _ (lt_of_block h3) (by simp)).trans h3)
        exact ⟨d0, d1⟩
      have hdS : ∀ (V : World) (x y : Value), wr.grownBy V none → ((V.setCell ⟨w.heap.size, 0, none⟩ x).setCell ⟨w.heap.size, 1, none⟩ y).cell? ⟨bx, 0, none⟩ = some (.slice wa wn wc) ∧ ((V.setCell ⟨w.heap.size, 0, none⟩ x).setCell ⟨w.heap.size, 1, none⟩ y).cell? ⟨bx, 1, none⟩ = some (.slice pa6 pn6 pc6) := fun V x y hg => by
        have hb := (hg.block _ (lt_of_block h3) (by simp)).trans h3
        obtain ⟨c0, c1, _, _⟩ := tx_cells (((two_set (w := V) (b := w.heap.size) (x' := x) (y' := y)).block _ (lt_of_block hb) (by simp; omega)).trans hb)
        exact ⟨c0, c1⟩
      obtain ⟨u0, u1, u2, u3⟩ := tx_cells h5
      obtain ⟨d0, d1⟩ := hd _ (grown_refl _ _)
      have HG : wr.grownBy wr.drew none := grown_drew (grown_refl _ _)
      obtain ⟨x0, x1, x2, x3⟩ := tx_cells ((HG.block _ (lt_of_block h5) (by simp)).trans h5)
      obtain ⟨y0, y1⟩ := hd _ HG
      have hNN := HN.out
      have hset := two_set (w := wr) (b := w.heap.size) (x' := .slice wa wn wc) (y' := .slice pa6 pn6 pc6)
      have hk5 := two_put (x' := .slice wa wn wc) (y' := .slice pa6 pn6 pc6) h5
      obtain ⟨z3, z4, _, _⟩ := tx_cells hk5
      have hend : DF w ((wr.setCell ⟨w.heap.size, 0, none⟩ (.slice wa wn wc)).setCell ⟨w.heap.size, 1, none⟩ (.slice pa6 pn6 pc6)).drew T R ws (plyW f0 X S O k) ∧ RD ((wr.setCell ⟨w.heap.size, 0, none⟩ (.slice wa wn wc)).setCell ⟨w.heap.size, 1, none⟩ (.slice pa6 pn6 pc6)).drew w.heap.size (.slice wa wn wc) (.slice pa6 pn6 pc6) ws (plyW f0 X S O k) 200 := by
        obtain ⟨h0, M', B', D', l', hX, hl'⟩ := h1
        have hq := grown_drew (grown_refl ((wr.setCell ⟨w.heap.size, 0, none⟩ (.slice wa wn wc)).setCell ⟨w.heap.size, 1, none⟩ (.slice pa6 pn6 pc6)) none)
        exact ⟨⟨h0, M', B', D', l', (hX.other h5 (Nat.le_refl _) hset).later hq, hl'⟩, ((h4.other h5 hset).later hq).more (by omega)⟩
      have HEND := Lib.hid hend
      have H2 := Lib.hid h2
      clear hd hdS h1 h2 h3 h4 h5 hend HN hg0 hk5 hset HG
      by_cases hkn : k < n
      · have hk40 : ¬ (k : Int) < 40 := by omega
        have hki : (k : Int) < (n : Int) := by omega
        clear hlt hNN hkn
        go_wp2
        go_region_law (fail)
        all_goals go_wp2
        all_goals refine bodyPost_ret (v := .tuple #[.pointer (some ⟨T, 0, none⟩), .agg #[.slice wa wn wc, .slice pa6 pn6 pc6], .bool true]) (by simp [results, Try.results9, go_sem, z3, z4]) rfl ⟨T, R, _, _, rfl, HEND.out.1, HEND.out.2, H2.out⟩
      · have hki : ¬ (k : Int) < (n : Int) := by omega
        clear hlt hNN hkn
        go_wp2
        go_region_law (fail)
        all_goals go_wp2
        all_goals refine bodyPost_ret (v := .tuple #[.pointer (some ⟨T, 0, none⟩), .agg #[.slice wa wn wc, .slice pa6 pn6 pc6], .bool true]) (by simp [results, Try.results9, go_sem, z3, z4]) rfl ⟨T, R, _, _, rfl, HEND.out.1, HEND.out.2, H2.out⟩
end
end Go.Proofs.Ytkkkgikmeiocaaa
namespace Go.Proofs.Ytkkkgikmeiocaaa
open Go.RowKit
set_option maxRecDepth 100000
section
variable {f : Nat → Nat} {s d : ByteArray} {p j k : Nat}
theorem st_live (H : DirOk NmD f) (hd : nmOk d) : stN f d = some j ↔ liveD f (loD d) (hiD d) j :=
  ⟨fun h => (stN_ok h).2.2, fun h => by rw [stN_of hd]; exact H.one nmD_one ⟨d, hd, rfl, rfl, rfl⟩ h⟩
theorem st_put_none (H : DirOk NmD f) (h : stN f d = none) (hne : s ≠ d) : stN (putW f s p) d = none := by
  by_cases e : putN f s p = 0
  · obtain ⟨h1, h2, h3, i, h4, h5⟩ := putW_is e
    cases e2 : stN (putW f s p) d with
    | none => rfl
    | some j =>
      have hd := (stN_ok e2).1
      have hl := (st_live (ok_put H) hd).1 e2
      rw [h5] at hl
      by_cases e3 : j = i
      · subst e3
        obtain ⟨o1, o2, o3⟩ := putD_own (f := f) (i := j) (a := loD s) (b := hiD s) (p := p)
        exact absurd ⟨by rw [← o1]; exact hl.2.2.1, by rw [← o2]; exact hl.2.2.2⟩ (words_ne h1 hd hne)
      · have := (st_live H hd).2 ((liveD_put e3).1 hl)
        rw [h] at this
        cases this
  · rw [putW_not e]; exact h
theorem st_drop_none (H : DirOk NmD f) (h : stN f d = none) : stN (drpF f s) d = none := by
  cases e2 : stN (drpF f s) d with
  | none => rfl
  | some j =>
    have hd := (stN_ok e2).1
    have hl := (st_live (ok_drop H) hd).1 e2
    unfold drpF at hl
    cases hs : stN f s with
    | none =>
      rw [hs] at hl
      have := (st_live H hd).2 hl
      rw [h] at this
      cases this
    | some i =>
      rw [hs] at hl
      dsimp only at hl
      have hij : j ≠ i := fun e => by
        subst e
        have h1 := hl.2.1
        rw [dropD_own.2.2] at h1
        omega
      have := (st_live H hd).2 ((liveD_drop hij).1 hl)
      rw [h] at this
      cases this
theorem room_of (hs : nmOk s) (h : stN f s = none) (hf : fullD f 16 < 16) : roomN f s = 0 := by
  unfold roomN
  obtain ⟨i, hi⟩ := plF_room (hD s) hf
  rw [if_neg (not_not_intro hs), if_neg (not_not_intro h), if_neg]
  unfold plN
  rw [hi]
  exact fun e => by cases e
theorem put_of (hs : nmOk s) (h : stN f s = none) (hf : fullD f 16 < 16) (hp : 1 < p) : putN f s p = 0 ∧ fullD (putW f s p) 16 = fullD f 16 + 1 := by
  have e : putN f s p = 0 := by
    unfold putN
    rw [room_of hs h hf, if_neg (by decide), if_neg (by omega)]
  refine ⟨e, ?_⟩
  obtain ⟨_, _, _, i, h4, h5⟩ := putW_is e
  obtain ⟨m, _, m2, rfl, m4, _⟩ := plF_some h4
  rw [h5]
  exact fullD_put (by omega) m4 hp
theorem put_full (hs : nmOk s) (h : stN f s = none) (hf : fullD f 16 = 16) : putN f s p = 9 := by
  have hr : roomN f s = 9 := by
    unfold roomN
    rw [if_neg (not_not_intro hs), if_neg (not_not_intro h), if_pos (show plN f s = none from plF_full _ (fullD_is hf))]
  unfold putN
  rw [hr]
  rfl
theorem drop_full (h : stN f s = some j) : fullD (drpF f s) 16 + 1 = fullD f 16 := by
  obtain ⟨_, _, l⟩ := stN_ok h
  unfold drpF
  rw [h]
  exact fullD_drop l.1 l.2.1
theorem ent_full (H : DirOk NmD f) : ∀ n, n ≤ 16 → (entK f n).length = fullD f n
  | 0, _ => rfl
  | n + 1, hn => by
    rw [entK_snoc, List.length_append, ent_full H n (by omega)]
    show fullD f n + _ = fullD f n + if 1 < f (dAt n + 16) then 1 else 0
    by_cases e : 1 < f (dAt n + 16)
    · obtain ⟨h, a, b, ⟨s, s1, _, s3, s4⟩, l, _⟩ := H n (by omega) e
      have hn : nameD (f (dAt n)) (f (dAt n + 8)) = some s := by rw [l.2.2.1, l.2.2.2, ← s3, ← s4]; exact nameD_is s1
      unfold entAt
      rw [if_pos e, if_pos e, hn]
      rfl
    · unfold entAt
      rw [if_neg e, if_neg e]
      rfl
structure Stood (S : Nat → ByteArray) (k : Nat) (f : Nat → Nat) : Prop where
  ok : DirOk NmD f
  full : fullD f 16 = k
  has : ∀ i, i < k → ∃ j, stN f (S i) = some j ∧ f (dAt j + 16) = 100 + i
  other : ∀ s, (∀ i, i < k → S i ≠ s) → stN f s = none
theorem Stood.nil (h : ∀ j, j < 16 → f (dAt j + 16) = 0) (S : Nat → ByteArray) : Stood S 0 f :=
  have ok := ok_zero h
  ⟨ok, by
    have : ∀ n, n ≤ 16 → fullD f n = 0 := fun n => by
      induction n with
      | zero => exact fun _ => rfl
      | succ n ih => exact fun hn => by unfold fullD; rw [ih (by omega), if_neg (by rw [h n (by omega)]; decide)]
    exact this 16 (Nat.le_refl _), fun i hi => absurd hi (Nat.not_lt_zero _), fun s _ => by
    cases e : stN f s with
    | none => rfl
    | some j =>
      obtain ⟨_, _, l⟩ := stN_ok e
      have := l.2.1
      rw [h j l.1] at this
      omega⟩
variable {S : Nat → ByteArray}
theorem Stood.put (h : Stood S k f) (hk : k < 16) (hS : ∀ i, nmOk (S i)) (hne : ∀ i, i < k → S i ≠ S k) : putN f (S k) (100 + k) = 0 ∧ Stood S (k + 1) (putW f (S k) (100 + k)) := by
  have hn := h.other (S k) hne
  obtain ⟨h1, h2⟩ := put_of (p := 100 + k) (hS k) hn (by rw [h.full]; exact hk) (by omega)
  refine ⟨h1, ok_put h.ok, by rw [h2, h.full], fun i hi => ?_, fun s hs => ?_⟩
  · by_cases e : i = k
    · subst e
      exact st_new h1
    · obtain ⟨j, j1, j2⟩ := h.has i (by omega)
      obtain ⟨p1, p2⟩ := st_put (p := 100 + k) j1 (Ne.symm (hne i (by omega)))
      exact ⟨j, p1, p2.trans j2⟩
  · exact st_put_none h.ok (h.other s fun i hi => hs i (by omega)) (hs k (by omega))
theorem Stood.last (h : Stood S 16 f) {t : ByteArray} (ht : nmOk t) (hS : ∀ i, nmOk (S i)) (hne : ∀ i k, i < 16 → k < 16 → i ≠ k → S i ≠ S k) (hnt : ∀ i, S i ≠ t) {a : Nat} (ha : a < 16) :
    putN f t 5 = 9 ∧ putW f t 5 = f ∧ (stN f (S a)).isSome = true ∧ putN (drpF f (S a)) t 5 = 0 ∧
    (∀ i, i < 16 → i ≠ a → (stN (putW (drpF f (S a)) t 5) (S i)).isSome = true ∧ fndN (putW (drpF f (S a)) t 5) (S i) = 100 + i) ∧
    stN (putW (drpF f (S a)) t 5) (S a) = none ∧ (entK (putW (drpF f (S a)) t 5) 16).length = 16 := by
  have hn := h.other t fun i hi => hnt i
  have h1 := put_full (p := 5) ht hn h.full
  obtain ⟨j, j1, j2⟩ := h.has a ha
  have h3 := ok_drop (s := S a) h.ok
  have h4 := drop_full j1
  have h5 := st_drop_none (s := S a) h.ok hn
  have hf := h.full
  obtain ⟨h6, h7⟩ := put_of (p := 5) ht h5 (by omega) (by decide)
  refine ⟨h1, putW_not (by rw [h1]; decide), by rw [j1]; rfl, h6, fun i hi hia => ?_, ?_, ?_⟩
  · obtain ⟨q, q1, q2⟩ := h.has i hi
    obtain ⟨r1, r2⟩ := st_drop q1 (hne a i ha hi (Ne.symm hia))
    obtain ⟨r3, r4⟩ := st_put (p := 5) r1 (Ne.symm (hnt i))
    refine ⟨by rw [r3]; rfl, ?_⟩
    unfold fndN
    rw [r3]
    exact (r4.trans r2).trans q2
  · exact st_put_none h3 (st_gone h.ok j1) (Ne.symm (hnt a))
  · rw [ent_full (ok_put h3) 16 (Nat.le_refl _), h7]
    omega
end
end Go.Proofs.Ytkkkgikmeiocaaa
