/-
  Texts of one layer, one behind the other: memory, contracts of the functions, and what follows of them.
  Conditions: as each theorem says.
-/
import Derived.Test.YtcbdbflgfhbikaaGreatLTre
set_option linter.unusedVariables false
set_option linter.unusedSimpArgs false
namespace Go.Proofs.YtcbdbflgfhbikaaGreat
open Go.RowKit
set_option maxRecDepth 100000
def Shaped (w : World) (S : List Nat) (n : Nat) (e : Ending) (w' : World) : Prop :=
  ∃ gb nds root g, e = .returned (.tuple #[.int .u64 (root : Nat), .slice (some ⟨gb, 0, none⟩) n n]) ∧ NodesAt w' gb nds ∧ nds.length = n ∧ (∀ j, j < n → (ndI nds j).o = S.getD j 0) ∧ NSay g root nds ∧ TreeOf g rkN root S ∧ w.grownBy w' none ∧ w.heap.size ≤ gb
theorem cell_of_block {w w' : World} {a : Addr} {v : Value} (hg : w.grownBy w' none) (h : w.cell? a = some v) : w'.cell? a = some v := hg.cell h (by simp)
theorem sorted_nds {z : Nat → Nat} {L : List Nat} {nds : List Nd} (hL : L.Nodup) (hp : nds.Perm (L.map fun x => ⟨z x, x, 0, 0⟩)) (hs : nds.Pairwise fun x y => ¬ ltK y.s y.o x.s x.o) :
    nds.length = (srtK z L).length ∧ (∀ j, j < (srtK z L).length → (ndI nds j).o = (srtK z L).getD j 0) ∧ ∀ j, j < (srtK z L).length → (ndI nds j).l = 0 ∧ (ndI nds j).r = 0 := by
  have hmem : ∀ x, x ∈ nds → x.s = z x.o ∧ x.l = 0 ∧ x.r = 0 := fun x hx => by
    have := hp.mem_iff.1 hx
    obtain ⟨y, _, rfl⟩ := List.mem_map.1 this
    exact ⟨rfl, rfl, rfl⟩
  have ho : (nds.map fun x => x.o).Perm L := by
    have := hp.map fun x : Nd => x.o
    rw [List.map_map] at this
    have e : ((fun x : Nd => x.o) ∘ fun x => (⟨z x, x, 0, 0⟩ : Nd)) = id := rfl
    rw [e, List.map_id] at this
    exact this
  have hrise : Rising z (nds.map fun x => x.o) := by
    unfold Rising
    rw [List.pairwise_map]
    have hnd : nds.Pairwise fun x y => x.o ≠ y.o := by
      have := ho.nodup_iff.2 hL
      unfold List.Nodup at this
      rwa [List.pairwise_map] at this
    refine (List.Pairwise.and hs hnd).imp_of_mem ?_
    intro x y hx hy ⟨h1, h2⟩
    have e1 := (hmem x hx).1
    have e2 := (hmem y hy).1
    unfold ltK at h1
    unfold blkLt keyLt
    omega
  have hsrt : srtK z L = nds.map fun x => x.o := srtK_ext hrise hL fun x => ho.mem_iff.symm
  have hlen : nds.length = (srtK z L).length := by rw [hsrt]; simp
  refine ⟨hlen, fun j hj => ?_, fun j hj => ?_⟩
  · rw [hsrt]
    unfold ndI
    rw [List.getD_eq_getElem?_getD, List.getD_eq_getElem?_getD, List.getElem?_map, List.getElem?_eq_getElem (by omega)]
    rfl
  · have := hmem (ndI nds j) (by
      unfold ndI
      rw [List.getD_eq_getElem?_getD, List.getElem?_eq_getElem (by omega)]
      exact List.getElem_mem _)
    exact this.2
section
variable {w : World} {T M : Nat} {R : Option Nat} {B D : Nat} {ws : List Nat} {l l' : List (Nat × Nat)} {z : Nat → Nat} {F S L : List Nat} {la : Option Addr} {c : Nat}
set_option maxHeartbeats 4000000 in
theorem tshape_any (h : Thinks w T M R B D ws l) (hB : Bed ws l z F) (hL : ∀ x, x ∈ L → x ∈ F) (hnd : L.Nodup) (hm : WordsAt w la L) (hlen : L.length ≤ 1000000) :
    Calls Tryz.prog 79 #[.agg #[.pointer (some ⟨T, 0, none⟩)], .slice la L.length c] w (Shaped w (srtK z L) L.length) := by
  have hkey := fun (w1 : World) (hg : w.grownBy w1 none) (x : Nat) (hx : x ∈ F) => tkey_any (h.later hg) x (by have := (hB.first hx).2; omega)
  have hS : SOk F (srtK z L) L.length := ⟨hB.free, srtK_length, fun x hx => hL x (srtK_mem.1 hx), (srtK_rising hnd).nodup⟩
  have hsort := fun (nds : List Nd) (hp : nds.Perm (L.map fun x => ⟨z x, x, 0, 0⟩)) (hs : nds.Pairwise fun x y => ¬ ltK y.s y.o x.s x.o) => sorted_nds hnd hp hs
  have hkeys := hB.keys
  have hall := ndS_all z L
  have hLF : ∀ j, j < L.length → L.getD j 0 ∈ F := fun j hj => hL _ (by rw [List.getD_eq_getElem?_getD, List.getElem?_eq_getElem hj]; exact List.getElem_mem _)
  have hmk := make_nodes L.length hlen
  have hmix := fun x w => mix_rk x w
  have hn0 : (ndS z L 0) = List.replicate L.length default := rfl
  have hndlen := ndS_len z L
  obtain ⟨S, hSe⟩ : ∃ S, srtK z L = S := ⟨_, rfl⟩
  rw [hSe] at hS hsort ⊢
  obtain ⟨n, hn⟩ : ∃ n, L.length = n := ⟨_, rfl⟩
  have HN := Lib.hid hn
  simp only [hn] at hS hLF hmk hlen hn0 hndlen hall ⊢
  have hbox : (w.alloc (.cells #[.pointer (some ⟨T, 0, none⟩)] 135)).heap[w.heap.size]? = some (.cells #[.pointer (some ⟨T, 0, none⟩)] 135 (0, 0)) := heap_alloc_new' _ _
  have hN0 : NodesAt ((w.alloc (.cells #[.pointer (some ⟨T, 0, none⟩)] 135)).alloc (.cells (cellsN (List.replicate n default)).toArray 142)) (w.heap.size + 1) (ndS z L 0) := by
    have := heap_alloc_new' (w.alloc (.cells #[.pointer (some ⟨T, 0, none⟩)] 135)) (.cells (cellsN (List.replicate n default)).toArray 142)
    rw [World.size_alloc] at this
    rw [hn0]
    exact this
  have hgA : w.grownBy ((w.alloc (.cells #[.pointer (some ⟨T, 0, none⟩)] 135)).alloc (.cells (cellsN (List.replicate n default)).toArray 142)) none := grown_trans (World.grownBy_alloc _ _ _) (World.grownBy_alloc _ _ _)
  have hbox2 : ((w.alloc (.cells #[.pointer (some ⟨T, 0, none⟩)] 135)).alloc (.cells (cellsN (List.replicate n default)).toArray 142)).heap[w.heap.size]? = some (.cells #[.pointer (some ⟨T, 0, none⟩)] 135 (0, 0)) := (Below.heap_alloc _ _ _ (by simp)).trans hbox
  have hgw : ∀ wr : World, ((w.alloc (.cells #[.pointer (some ⟨T, 0, none⟩)] 135)).alloc (.cells (cellsN (List.replicate n default)).toArray 142)).grownBy wr (some (w.heap.size + 1)) → w.grownBy wr none := fun wr hg => grown_new (grown_trans (grown_any hgA _) hg) (by omega)
  have HGW := Lib.hid hgw
  have HBX := Lib.hid hbox2
  have HN0 := Lib.hid hN0
  have HALL := Lib.hid hall
  have HLF := Lib.hid hLF
  have HNL := Lib.hid hndlen
  have HKEYS := Lib.hid hkeys
  have HS := Lib.hid hS
  have HSORT := Lib.hid hsort
  clear hbox hN0 hgA hbox2 hgw hn0 hall hn hndlen hLF hB hL h hS hsort hkeys
  go_enter Tryz.func79, Tryz.ntmps79
  go_wp2
  go_loopw [19] (fun p wr => ∃ i : Nat, i ≤ n ∧ p = .int .i64 i ∧ NodesAt wr (w.heap.size + 1) (ndS z L i) ∧ ((w.alloc (.cells #[.pointer (some ⟨T, 0, none⟩)] 135)).alloc (.cells (cellsN (List.replicate n default)).toArray 142)).grownBy wr (some (w.heap.size + 1))) (fun p _ => n - (intOf p).toNat)
  case atStart => exact ⟨0, Nat.zero_le _, rfl, HN0.out, grown_refl _ _⟩
  case round =>
    obtain ⟨i, hi, rfl, hNi, hgi⟩ := hrel
    have hgwr := HGW.out _ hgi
    have c0 := cell_of_one ((hgi.block _ (lt_of_block HBX.out) (by simp)).trans HBX.out)
    by_cases hin : i < n
    · obtain ⟨bl, off, rfl, hbl, hcs⟩ := (hm.later hgwr).cells (by rw [HN.out]; omega)
      have c1 := hcs i (by rw [HN.out]; exact hin)
      have hx := HLF.out i hin
      obtain ⟨x, ex⟩ : ∃ x, L.getD i 0 = x := ⟨_, rfl⟩
      rw [ex] at c1 hx
      have hk := hkey wr hgwr x hx
      rw [HKEYS.out x hx] at hk
      obtain ⟨zx, ezx⟩ : ∃ q, z x = q := ⟨_, rfl⟩
      rw [ezx] at hk
      have HX := Lib.hid ex
      have HZ := Lib.hid ezx
      have HNI := Lib.hid hNi
      have hin' : (i : Int) < (n : Int) := by omega
      clear hcs hkey hm ex ezx hNi
      go_wp2_with (first | (go_at_call 101; (with_reducible refine hk.mono ?_); rintro e w2 ⟨rfl, hg2⟩; have f0 := (HNI.out.later hg2 (by simp)).frozen (i * 4); have f1 := (HNI.out.later hg2 (by simp)).frozen (i * 4 + 1); obtain ⟨d0, d1, d2, d3⟩ := (HNI.out.later hg2 (by simp)).cell (by rw [HNL.out]; exact hin)))
      refine ⟨⟨i + 1, by omega, by go_num, ?_, grown_trans (grown_trans hgi (grown_any hg2 _)) (grown_trans (grown_set _ _ _ _) (grown_set _ _ _ _))⟩, by simp [intOf]; omega⟩
      have h5 := (HNI.out.later hg2 (by simp)).setK (k := i) (by rw [HNL.out]; exact hin) zx x
      unfold ndS
      rw [HX.out, HZ.out]
      exact h5
    · obtain rfl : i = n := by omega
      rw [HALL.out] at hNi
      have hso0 := sort_any hNi (by simpa [HN.out] using hlen) i
      have hln : (L.map fun x => (⟨z x, x, 0, 0⟩ : Nd)).length = i := by simp [HN.out]
      rw [hln] at hso0
      clear hm hkey hNi hln
      go_wp2_with (first | (go_at_call 125; (with_reducible refine hso0.mono ?_); rintro e w3 ⟨rfl, nd', hN3, hp3, hs3, hg3⟩))
      obtain ⟨q1, q2, q3⟩ := HSORT.out nd' hp3 hs3
      rw [HS.out.len] at q1 q2 q3
      have hF0 := ShI.first (S := S) (w := w) hN3 (by omega) (HGW.out _ (grown_trans hgi hg3)) q1 q2 q3
      have HF0 := Lib.hid hF0
      clear hso0 hN3 hp3 hs3 hg3 q1 q2 q3 hF0 c0 hgwr hgi
      obtain ⟨ab, hab⟩ : ∃ ab, w3.heap.size = ab := ⟨_, rfl⟩
      simp only [hab] at HF0 ⊢
      obtain ⟨gb, hgb⟩ : ∃ gb, w.heap.size + 1 = gb := ⟨_, rfl⟩
      simp only [hgb] at HF0 ⊢
      have HMX := Lib.hid hmix
      clear hmk hmix
      go_loopw [37, 10] (fun p v wr => ∃ (k : Nat) (nds : List Nd) (es : List Nat) (root : Nat), k ≤ i ∧ p = .int .i64 k ∧ ShI w wr ab gb i S v nds es root k) (fun p _ _ => i - (intOf p).toNat)
      case atStart => exact ⟨0, nd', [], 0, Nat.zero_le _, rfl, HF0.out⟩
      case round =>
        obtain ⟨wo, ewo⟩ : ∃ wo, wo = wr := ⟨_, rfl⟩
        obtain ⟨k, nds, es, root, hk, rfl, hI⟩ := hrel
        subst ewo
        obtain ⟨eb, cap, cur, rfl, heb1, hcap, heb, hc0, hcs⟩ := hI.edge.form
        have HI := Lib.hid hI
        have hlt2 := hI.at_
        have hshort := hI.short
        by_cases hkn : k < i
        · have hkn' : (k : Int) < (i : Int) := by omega
          have elen : IntKind.i64.wrap (((es.length + 1 : Nat) : Int) - 1) = (es.length : Nat) := by rw [IntKind.wrap_i64]; omega
          have HP0 := Lib.hid (hI.pop0 hkn)
          have HC0 := Lib.hid hc0
          have HCS := Lib.hid hcs
          have HEB := Lib.hid heb
          obtain ⟨E, hE⟩ : ∃ E, es.length = E := ⟨_, rfl⟩
          have HE := Lib.hid hE
          simp only [hE] at elen ⊢
          have hE6 : E ≤ 1000000 := by omega
          clear hI hc0 hcs heb hE
          go_wp2
          go_loopw [13] (fun p wq => ∃ t : Nat, p = .int .i64 t ∧ ShP wo wq gb i S es nds k t) (fun p _ => (intOf p).toNat)
          case atStart => exact ⟨E, by go_num, HE.out ▸ HP0.out⟩
          case round =>
            obtain ⟨t, rfl, hP⟩ := hrel
            have hEB := hP.at_ (by omega) HEB.out
            have hcell : ∀ o, wr.cell? ⟨eb, o, none⟩ = wo.cell? ⟨eb, o, none⟩ := fun o => World.cell?_of_block (a := ⟨eb, o, none⟩) hEB
            have cn := hP.off HI.out.len HI.out.offs hkn k hkn
            obtain ⟨x, hx⟩ : ∃ x, S.getD k 0 = x := ⟨_, rfl⟩
            rw [hx] at cn
            have HX := Lib.hid hx
            have HP := Lib.hid hP
            clear hx hEB hP
            rcases t with _ | u
            · have ce : wr.cell? ⟨eb, 0, none⟩ = some (.pointer (some ⟨ab, 0, none⟩)) := (hcell 0).trans HC0.out
              have hab2 := HI.out.above
              clear hcell
              go_wp2
              go_quiet (fail)
              have h5 := grown_dN wr nq
              obtain ⟨w5, e5⟩ : ∃ w5, wr.drewN nq = w5 := ⟨_, rfl⟩
              rw [e5] at h5 ⊢
              have HP5 := Lib.hid (HP.out.later h5)
              have hA5 := ((grown_trans HP.out.grown (grown_any h5 _)).block ab (lt_of_block hab2) (by simp; omega)).trans hab2
              have k0 := cell_of_block h5 ce
              have k1 := cell_of_block h5 cn
              obtain ⟨a0, a1, a2, a3⟩ := four_cells hA5
              have f3 : w5.frozen? ⟨ab, 3, none⟩ = false := by simp [World.frozen?, hA5]
              have HA5 := Lib.hid hA5
              clear hA5 ce cn hab2 h5 e5
              go_wp2
              go_region
              obtain ⟨w6, e6⟩ : ∃ w6, (w5.setCell ⟨ab, 3, none⟩ (.int .u64 (x : Nat))).drew = w6 := ⟨_, rfl⟩
              rw [e6]
              have gs : w5.grownBy w6 (some ab) := by rw [← e6]; exact grown_drew (grown_set _ _ _ _)
              have hA6 : w6.heap[ab]? = some (.cells #[.int .u64 0, .int .u64 0, .int .u64 0, .int .u64 (x : Nat)] 142 (0, 0)) := by
                rw [← e6]; exact four_put HA5.out
              have hN6 := HP5.out.nodes.later gs (by simp; omega)
              have hO6 : OwnE w6 (ab + 1) (.slice (some ⟨eb, 0, none⟩) (0 + 1) cap) ab gb (es.take 0) :=
                OwnE.take (World.ownsRow.kept (World.ownsRow.kept HI.out.edge HP5.out.grown (.inr (by simp [Value.ownBlock]; omega))) gs (.inr (by simp [Value.ownBlock]; omega))) 0 (Nat.zero_le _)
              unfold OwnE at hO6
              rw [show (es.take 0).length = 0 by simp] at hO6
              have hg6 : w.grownBy w6 none := grown_new (grown_trans (grown_any (grown_new (grown_trans (grown_any HI.out.grown _) HP5.out.grown) hlt2.1) _) gs) (by omega)
              have HO6 := Lib.hid hO6
              have HA6 := Lib.hid hA6
              have HN6 := Lib.hid hN6
              have hsz6 := lt_of_block hA6
              have hcap0 : (1 : Int) ≤ (cap : Int) := by omega
              clear hA6 hN6 hO6 a0 a1 a2 a3 k0 k1 f3 e6 gs
              go_wp2_with (first | (at_builtin; go_must (refine wpList_append_nptr rfl _ _ rfl (ab + 1) (.slice (some ⟨eb, 0, none⟩) (0 + 1) cap) (0 + 1) _ rfl HO6.out _ rfl (by omega) (by omega) ?_); intro v' w8 hown8 hg8 hloc))
              have ga := World.grownBy_alloc w6 (.cells #[.pointer (some ⟨gb, k * 4, none⟩)] 181) none
              have g8 : w6.grownBy w8 (some eb) := grown_trans (grown_any ga _) hg8
              have hN8 := HN6.out.later g8 (by simp; omega)
              have hA8 := (g8.block ab (lt_of_block HA6.out) (by simp; omega)).trans HA6.out
              have hg88 : w.grownBy w8 none := grown_new (grown_trans (grown_any hg6 _) g8) (by omega)
              have hO8 : OwnE w8 (ab + 1) v' ab gb (es.take 0 ++ [k]) := by
                unfold OwnE
                rw [← ptrs_snoc]
                simpa using hown8
              have hpop := HP5.out
              refine ⟨⟨k + 1, _, _, _, by omega, by go_num, HI.out.next0 HS.out hkn hpop hN8 (by rw [HX.out]; exact hA8) hO8 hg88⟩, by simp [intOf]; omega⟩
            · have hu : u < es.length := by have := HP.out.le; omega
              have huE : (u : Int) + 1 < (E : Int) + 1 := by have := HE.out; omega
              have huE2 : (u : Int) < (E : Int) := by have := HE.out; omega
              have hu0 : (0 : Int) < (u : Int) + 1 := by omega
              have ce := (hcell (u + 1)).trans (HCS.out u hu)
              obtain ⟨e, he⟩ : ∃ e, es.getD u 0 = e := ⟨_, rfl⟩
              rw [he] at ce
              have hek : e < k := HI.out.ahead e (by rw [← he, List.getD_eq_getElem?_getD, List.getElem?_eq_getElem hu]; exact List.getElem_mem _)
              have co := HP.out.off HI.out.len HI.out.offs hkn e (by omega)
              obtain ⟨y, hy⟩ : ∃ y, S.getD e 0 = y := ⟨_, rfl⟩
              rw [hy] at co
              have HY := Lib.hid (show (shE S es).getD u 0 = y by rw [shE_get S es u hu, he, hy])
              have HEE := Lib.hid he
              clear hcell he hy
              by_cases hr : rkN y < rkN x
              · have hr' : ((rkN y : Nat) : Int) < (rkN x : Nat) := by omega
                go_wp2
                go_quiet (first | (go_at_call 128; exact Calls.quiet_of_same ((HMX.out _ _).mono fun e w' ⟨h1, h2⟩ => ⟨h1, h2.symm⟩)))
                have h5 := grown_dN wr nq
                obtain ⟨w5, e5⟩ : ∃ w5, wr.drewN nq = w5 := ⟨_, rfl⟩
                rw [e5] at h5 ⊢
                have HP5 := Lib.hid (HP.out.later h5)
                have k0 := cell_of_block h5 ce
                have k1 := cell_of_block h5 cn
                have k2 := cell_of_block h5 co
                obtain ⟨_, _, k3, _⟩ := HP5.out.nodes.cell (k := k) (by simp [HI.out.len]; omega)
                have f3 := HP5.out.nodes.frozen (k * 4 + 2)
                clear ce cn co h5 e5
                go_wp2
                refine ⟨⟨u, by go_num, ?_⟩, by simp [intOf]⟩
                have := HP5.out.pop HI.out.len hkn (by omega) (by rw [Nat.add_sub_cancel, HY.out, HX.out]; exact hr)
                rw [Nat.add_sub_cancel, HY.out] at this
                exact this
              · have hr' : ¬ ((rkN y : Nat) : Int) < (rkN x : Nat) := by omega
                go_wp2
                go_quiet (first | (go_at_call 128; exact Calls.quiet_of_same ((HMX.out _ _).mono fun e w' ⟨h1, h2⟩ => ⟨h1, h2.symm⟩)))
                have h5 := grown_dN wr nq
                obtain ⟨w5, e5⟩ : ∃ w5, wr.drewN nq = w5 := ⟨_, rfl⟩
                rw [e5] at h5 ⊢
                have HP5 := Lib.hid (HP.out.later h5)
                have k0 := cell_of_block h5 ce
                have k1 := cell_of_block h5 cn
                have k2 := cell_of_block h5 co
                obtain ⟨_, _, _, k3⟩ := HP5.out.nodes.cell (k := e) (by simp [HI.out.len]; omega)
                have f3 := HP5.out.nodes.frozen (e * 4 + 3)
                clear ce cn co h5 e5
                go_wp2
                go_region
                have hrk : rkN x < rkN y := by
                  rcases Nat.lt_or_ge (rkN x) (rkN y) with h1 | h1
                  · exact h1
                  · have h2 : rkN x = rkN y := by omega
                    have hxF := HS.out.sub _ (HS.out.mem hkn)
                    have hyF := HS.out.sub _ (HS.out.mem (show e < i by omega))
                    have hye : S.getD e 0 = y := by rw [← HY.out, shE_get S es u hu, HEE.out]
                    rw [HX.out] at hxF
                    rw [hye] at hyF
                    have b1 := HS.out.free.on x hxF
                    have b2 := HS.out.free.on y hyF
                    have h3 := rkN_inj (by omega) (by omega) h2
                    have := HS.out.inj hkn (show e < i by omega) (by rw [HX.out, hye, h3])
                    omega
                obtain ⟨w6, e6⟩ : ∃ w6, (w5.setCell ⟨gb, e * 4 + 3, none⟩ (.int .u64 (x : Nat))).drew = w6 := ⟨_, rfl⟩
                rw [e6]
                have gs : w5.grownBy w6 (some gb) := by rw [← e6]; exact grown_drew (grown_set _ _ _ _)
                have hN6 := ((HP5.out.nodes.setR (k := e) (by simp [HI.out.len]; omega) x).later (grown_drew (grown_refl _ none)) (by simp) : NodesAt _ gb _)
                rw [e6] at hN6
                have hab2 := HI.out.above
                have hA6 := ((grown_trans HP5.out.grown gs).block ab (lt_of_block hab2) (by simp; omega)).trans hab2
                have hO6 : OwnE w6 (ab + 1) (.slice (some ⟨eb, 0, none⟩) (u + 1 + 1) cap) ab gb (es.take (u + 1)) :=
                  OwnE.take (World.ownsRow.kept (World.ownsRow.kept HI.out.edge HP5.out.grown (.inr (by simp [Value.ownBlock]; omega))) gs (.inr (by simp [Value.ownBlock]; omega))) (u + 1) (by omega)
                unfold OwnE at hO6
                rw [show (es.take (u + 1)).length = u + 1 by simp; omega] at hO6
                have hg6 : w.grownBy w6 none := grown_new (grown_trans (grown_any (grown_new (grown_trans (grown_any HI.out.grown _) HP5.out.grown) hlt2.1) _) gs) (by omega)
                have HO6 := Lib.hid hO6
                have HA6 := Lib.hid hA6
                have HN6 := Lib.hid hN6
                have hsz6 := lt_of_block hA6
                have hcap0 : (u : Int) + 1 + 1 ≤ (cap : Int) := by have := HE.out; omega
                have ew2 : IntKind.i64.wrap ((u : Int) + 1 + 1) = (u : Int) + 1 + 1 := by rw [IntKind.wrap_i64]; omega
                clear hA6 hN6 hO6 k0 k1 k2 k3 f3 e6 gs hab2
                go_wp2_with (first | (at_builtin; go_must (refine wpList_append_nptr rfl _ _ rfl (ab + 1) (.slice (some ⟨eb, 0, none⟩) ((u + 1) + 1) cap) ((u + 1) + 1) _ rfl HO6.out _ rfl (by omega) (by omega) ?_); intro v' w8 hown8 hg8 hloc))
                have ga := World.grownBy_alloc w6 (.cells #[.pointer (some ⟨gb, k * 4, none⟩)] 181) none
                have g8 : w6.grownBy w8 (some eb) := grown_trans (grown_any ga _) hg8
                have hN8 := HN6.out.later g8 (by simp; omega)
                have hA8 := (g8.block ab (lt_of_block HA6.out) (by simp; omega)).trans HA6.out
                have hg88 : w.grownBy w8 none := grown_new (grown_trans (grown_any hg6 _) g8) (by omega)
                have hO8 : OwnE w8 (ab + 1) v' ab gb (es.take (u + 1) ++ [k]) := by
                  have hlt' : (es.take (u + 1)).length = u + 1 := by simp; omega
                  unfold OwnE
                  rw [← ptrs_snoc, List.length_append, hlt']
                  exact hown8
                refine ⟨⟨k + 1, _, _, _, by omega, by go_num, HI.out.nextS (e := e) (t := u + 1) HS.out hkn (by omega) (by rw [Nat.add_sub_cancel]; exact HEE.out) HP5.out (by rw [Nat.add_sub_cancel, HY.out, HX.out]; exact hrk) (by rw [HX.out]; exact hN8) hA8 hO8 hg88⟩, by simp [intOf]; omega⟩
        · obtain rfl : k = i := by omega
          have hA := HI.out.above
          obtain ⟨a0, a1, a2, a3⟩ := four_cells hA
          clear hc0 hcs hA
          go_wp2
          refine bodyPost_ret (v := .tuple #[.int .u64 (root : Nat), .slice (some ⟨gb, 0, none⟩) k k]) (by simp [results, Tryz.results79, go_sem]) rfl ?_
          obtain ⟨g, b, q1, q2, q3⟩ := HI.out.spine
          refine ⟨gb, nds, root, g, rfl, HI.out.nodes, HI.out.len, HI.out.offs, q1, ?_, HI.out.grown, HI.out.at_.1⟩
          have h9 := q2.close (m := []) (by rw [q3]; exact TreeOf.nil) (by simp)
          rw [List.append_nil, q1.root, List.take_of_length_le (by rw [HS.out.len]; exact Nat.le_refl _)] at h9
          exact h9
end
end Go.Proofs.YtcbdbflgfhbikaaGreat
namespace Go.Proofs.YtcbdbflgfhbikaaGreat
open Go.RowKit
set_option maxRecDepth 100000
theorem two_held1 {w w' : World} {x : Value} {t : TypeId} {b : Nat} (h : w.heap[b]? = some (.cells #[x] t (0, 0))) (hg : w.grownBy w' none) : w'.heap[b]? = some (.cells #[x] t (0, 0)) := (hg.block _ (lt_of_block h) (by simp)).trans h
section
variable {w : World} {T M : Nat} {R : Option Nat} {B D : Nat} {ws : List Nat} {l l' : List (Nat × Nat)} {z : Nat → Nat} {F S L : List Nat} {la : Option Addr} {c : Nat}
theorem check1_any (h : Thinks w T M R B D ws l) (off v : Nat) (ho : off < 18446744073709551616) (kb wb : Nat) (b : Bool) (hk : w.heap[kb]? = some (.cells #[.bool b] 4 (0, 0))) (hw : w.heap[wb]? = some (.cells #[.pointer (some ⟨T, 0, none⟩)] 135 (0, 0))) :
    Calls Tryz.prog 82 #[.int .u64 off, .int .u64 v, .pointer (some ⟨kb, 0, none⟩), .pointer (some ⟨wb, 0, none⟩)] w fun e w' => e = .returned (.tuple #[]) ∧ w'.heap[kb]? = some (.cells #[.bool (b && decide (txSee ws l off = v))] 4 (0, 0)) ∧ w.grownBy w' (some kb) := by
  have hload := txload_any h off ho
  have k0 := cell_of_one hk
  have w0 := cell_of_one hw
  have fk : w.frozen? ⟨kb, 0, none⟩ = false := by simp [World.frozen?, hk]
  have HK := Lib.hid hk
  obtain ⟨x, ex⟩ : ∃ x, txSee ws l off = x := ⟨_, rfl⟩
  rw [ex] at hload ⊢
  clear hk hw h
  cases b with
  | false =>
    go_enter Tryz.func82, Tryz.ntmps82
    go_wp2
    go_end0
    refine ⟨rfl, ?_, grown_set _ _ _ _⟩
    rw [heap_setCell_same HK.out]; rfl
  | true =>
    have hb : ((x : Int) == (v : Int)) = decide (x = v) := by
      by_cases e : x = v
      · rw [decide_eq_true e, e]; simp
      · rw [decide_eq_false e]; simp only [beq_eq_false_iff_ne, ne_eq]; omega
    obtain ⟨d, ed⟩ : ∃ d, decide (x = v) = d := ⟨_, rfl⟩
    rw [ed] at hb ⊢
    clear ed
    go_enter Tryz.func82, Tryz.ntmps82
    go_wp2_with (first | (go_at_call 17; (with_reducible refine hload.mono ?_); rintro e w1 ⟨rfl, hg1⟩; have hk1 := two_held1 HK.out hg1; have k1 := cell_of_one hk1; have f1 : w1.frozen? ⟨kb, 0, none⟩ = false := (by simp [World.frozen?, hk1]); have HK1 := Lib.hid hk1; clear hk1))
    go_end0
    refine ⟨rfl, ?_, grown_trans (grown_any hg1 _) (grown_set _ _ _ _)⟩
    rw [heap_setCell_same HK1.out]; rfl
set_option maxHeartbeats 1000000 in
theorem sons_check (h : Thinks w T M R B D ws l) (x : Nd) (ho : x.o + 16 < 18446744073709551616) (kb wb : Nat) (b : Bool) (hk : w.heap[kb]? = some (.cells #[.bool b] 4 (0, 0))) (hw : w.heap[wb]? = some (.cells #[.pointer (some ⟨T, 0, none⟩)] 135 (0, 0))) :
    Calls Tryz.prog 81 #[.agg #[.int .u64 (x.s : Nat), .int .u64 (x.o : Nat), .int .u64 (x.l : Nat), .int .u64 (x.r : Nat)], .func (.func 82) #[] #[.pointer (some ⟨kb, 0, none⟩), .pointer (some ⟨wb, 0, none⟩)]] w fun e w' => e = .returned (.tuple #[]) ∧ w'.heap[kb]? = some (.cells #[.bool (b && decide (txSee ws l (x.o + 8) = x.l) && decide (txSee ws l (x.o + 16) = x.r))] 4 (0, 0)) ∧ w.grownBy w' (some kb) := by
  obtain ⟨xs, xo, xl, xr⟩ := x
  simp only at ho ⊢
  have hkb := lt_of_block hk
  have hwb := lt_of_block hw
  have hne : kb ≠ wb := ne_type hk hw (by decide)
  have h1 := fun (w1 : World) (hg : w.grownBy w1 none) => check1_any (h.later hg) (xo + 8) xl (by omega) kb wb b (two_held1 hk hg) (two_held1 hw hg)
  have h2 := fun (w1 : World) (w2 : World) (b2 : Bool) (hg : w.grownBy w1 none) (hk2 : w2.heap[kb]? = some (.cells #[.bool b2] 4 (0, 0))) (hg2 : w1.grownBy w2 (some kb)) => check1_any (l := l) (R := R) (D := D) (M := M) (T := T) (w := w2) (ws := ws) (B := B) ((h.later hg).turned (Turned.of_grown hg2) (fun k e => by
    have hk1 := two_held1 hk hg
    have e' : kb = k := by injection e
    subst e'
    exact ⟨(h.later hg).far hk1 (by decide) (by decide), fun e => ne_type hk1 (h.later hg).seg.head (by decide) e, fun e => ne_type hk1 (h.later hg).seg.data (by decide) e⟩)) (xo + 16) xr (by omega) kb wb b2 hk2 ((hg2.block wb (by have := hg.size; omega) (by simpa using hne.symm)).trans (two_held1 hw hg))
  have e8 : IntKind.u64.wrap ((xo : Int) + 8) = (xo + 8 : Nat) := by rw [IntKind.wrap_u64]; omega
  have e16 : IntKind.u64.wrap ((xo : Int) + 16) = (xo + 16 : Nat) := by rw [IntKind.wrap_u64]; omega
  obtain ⟨o8, eo8⟩ : ∃ q, xo + 8 = q := ⟨_, rfl⟩
  obtain ⟨o16, eo16⟩ : ∃ q, xo + 16 = q := ⟨_, rfl⟩
  rw [eo8] at e8 h1
  rw [eo16] at e16 h2
  rw [eo8, eo16]
  have hg0 : w.grownBy (w.alloc (.cells #[.int .u64 xs, .int .u64 xo, .int .u64 xl, .int .u64 xr] 142)) none := World.grownBy_alloc _ _ _
  have hb0 : (w.alloc (.cells #[.int .u64 xs, .int .u64 xo, .int .u64 xl, .int .u64 xr] 142)).heap[w.heap.size]? = some (.cells #[.int .u64 xs, .int .u64 xo, .int .u64 xl, .int .u64 xr] 142 (0, 0)) := heap_alloc_new' _ _
  have HB := Lib.hid hb0
  obtain ⟨b1, hb1⟩ : ∃ b1, (b && decide (txSee ws l o8 = xl)) = b1 := ⟨_, rfl⟩
  rw [hb1] at h1 ⊢
  obtain ⟨d2, hd2⟩ : ∃ d2, decide (txSee ws l o16 = xr) = d2 := ⟨_, rfl⟩
  rw [hd2] at h2 ⊢
  clear hk hw h eo8 eo16 hb1 hd2 hb0
  go_enter Tryz.func81, Tryz.ntmps81
  go_wp2_with (first | (go_at_call 82; (with_reducible refine (h1 _ hg0).mono ?_); rintro e w1 ⟨rfl, hk1, hg1⟩; obtain ⟨q0, q1, q2, q3⟩ := four_cells ((hg1.block _ (lt_of_block HB.out) (by simp; omega)).trans HB.out); have HK1 := Lib.hid hk1; clear hk1) | (go_at_call 82; (with_reducible refine (h2 _ _ b1 hg0 HK1.out hg1).mono ?_); rintro e w2 ⟨rfl, hk2, hg2⟩))
  go_end0
  exact ⟨rfl, hk2, grown_trans (grown_any hg0 _) (grown_trans hg1 hg2)⟩
set_option maxHeartbeats 4000000 in
theorem tcheck_any (h : Thinks w T M R B D ws l) (hB : Bed ws l z F) (hL : ∀ x, x ∈ L → x ∈ F) (hnd : L.Nodup) (hm : WordsAt w la L) (hlen : L.length ≤ 1000000) :
    Calls Tryz.prog 39 #[.pointer (some ⟨T, 0, none⟩), .slice la L.length c] w fun e w' => w.grownBy w' none ∧ ∃ b, e = .returned (.bool b) ∧ (b = true ↔ TreeOf (txSee ws l) rkN (txSee ws l 32) (srtK z L)) := by
  have hg0 : w.grownBy (w.alloc (.cells #[.pointer (some ⟨T, 0, none⟩)] 135)) none := World.grownBy_alloc _ _ _
  have hb0 : (w.alloc (.cells #[.pointer (some ⟨T, 0, none⟩)] 135)).heap[w.heap.size]? = some (.cells #[.pointer (some ⟨T, 0, none⟩)] 135 (0, 0)) := heap_alloc_new' _ _
  have hshape := tshape_any (c := c) (h.later hg0) hB hL hnd (hm.later hg0) hlen
  have hroot := fun (w1 : World) (hg : w.grownBy w1 none) => hroot_any (h.later hg)
  have hSm : ∀ x, x ∈ srtK z L → x ∈ F := fun x hx => hL x (srtK_mem.1 hx)
  have hSl : (srtK z L).length = L.length := srtK_length
  obtain ⟨S, hSe⟩ : ∃ S, srtK z L = S := ⟨_, rfl⟩
  rw [hSe] at hshape hSm hSl ⊢
  obtain ⟨n, hn⟩ : ∃ n, L.length = n := ⟨_, rfl⟩
  rw [hn] at hshape hSl hlen ⊢
  have hS64 : ∀ j, j < n → S.getD j 0 + 16 < 18446744073709551616 := fun j hj => (hB.first (hSm _ (by rw [List.getD_eq_getElem?_getD, List.getElem?_eq_getElem (by omega)]; exact List.getElem_mem _))).2
  have HS64 := Lib.hid hS64
  have HSL := Lib.hid hSl
  have HTH := Lib.hid h
  obtain ⟨r0, hr0⟩ : ∃ r0, txSee ws l 32 = r0 := ⟨_, rfl⟩
  rw [hr0] at hroot ⊢
  have HR0 := Lib.hid hr0
  have HB0 := Lib.hid hb0
  clear hb0 hr0 hS64 hSl h hB hm hSm hnd hn hSe hL
  go_enter Tryz.func39, Tryz.ntmps39
  go_wp2_with (first | (go_at_call 79; (with_reducible refine hshape.mono ?_); rintro e w1 ⟨gb, nds, root, g, rfl, q1, q2, q3, q4, q5, q6, q7⟩) | (go_at_call 80; (with_reducible refine (hroot _ (grown_trans hg0 q6)).mono ?_); rintro e w2 ⟨rfl, hg2⟩; have hgK := World.grownBy_alloc w2 (.cells #[.bool ((r0 : Int) == (root : Int))] 4) none))
  have hkb : w2.heap.size = w2.heap.size := rfl
  have hsz1 := q1.lt
  have hsz2 := hg2.size
  have G2 := grown_trans hg0 (grown_trans q6 hg2)
  have hgw : ∀ wr : World, (w2.alloc (.cells #[.bool ((r0 : Int) == (root : Int))] 4)).grownBy wr (some w2.heap.size) → w.grownBy wr none := fun wr hg => grown_new (grown_trans (grown_any (grown_trans G2 hgK) _) hg) G2.size
  have hW2 := ((grown_trans (grown_trans q6 hg2) hgK).block _ (lt_of_block HB0.out) (by simp)).trans HB0.out
  have hN2 := (q1.later hg2 (by simp)).later hgK (by simp)
  have hb0 := heap_alloc_new' w2 (.cells #[.bool ((r0 : Int) == (root : Int))] 4)
  have hwb := lt_of_block HB0.out
  have hwlt : w.heap.size < w2.heap.size := by have := (grown_trans q6 hg2).size; omega
  have HGW := Lib.hid hgw
  have HW2 := Lib.hid hW2
  have HN2 := Lib.hid hN2
  have HK0 := Lib.hid hb0
  have HO := Lib.hid q3
  have HNS := Lib.hid q4
  have HTR := Lib.hid q5
  have HR := Lib.hid (show ((r0 : Int) == (root : Int)) = true ↔ r0 = root by simp; omega)
  obtain ⟨kb, ekb⟩ : ∃ kb, w2.heap.size = kb := ⟨_, rfl⟩
  rw [ekb] at hsz2 hwlt
  simp only [ekb] at HGW HK0 ⊢
  clear q1 q3 q4 q5 q7 hkb hgw hW2 hN2 hb0 hgK hg2 G2 hwb ekb
  go_loopw [25] (fun p wr => ∃ (i : Nat) (b : Bool), i ≤ n ∧ p = .int .i64 i ∧ wr.heap[kb]? = some (.cells #[.bool b] 4 (0, 0)) ∧ (b = true ↔ (r0 = root ∧ ∀ j, j < i → txSee ws l (S.getD j 0 + 8) = (ndI nds j).l ∧ txSee ws l (S.getD j 0 + 16) = (ndI nds j).r)) ∧ (w2.alloc (.cells #[.bool ((r0 : Int) == (root : Int))] 4)).grownBy wr (some kb)) (fun p _ => n - (intOf p).toNat)
  case atStart => exact ⟨0, _, Nat.zero_le _, rfl, HK0.out, by rw [HR.out]; exact ⟨fun h => ⟨h, fun j hj => by omega⟩, fun h => h.1⟩, grown_refl _ _⟩
  case round =>
    obtain ⟨i, b, hi, rfl, hkr, hiff, hgr⟩ := hrel
    have hgwr := HGW.out _ hgr
    by_cases hin : i < n
    · have hin' : (i : Int) < (n : Int) := by omega
      have hNr := HN2.out.later hgr (by simp; omega)
      have hWr := (hgr.block _ (lt_of_block HW2.out) (by simp; omega)).trans HW2.out
      obtain ⟨c0, c1, c2, c3⟩ := hNr.cell (k := i) (by omega)
      obtain ⟨nd, hnd⟩ : ∃ nd, ndI nds i = nd := ⟨_, rfl⟩
      have hnd2 : nds.getD i default = nd := hnd
      rw [hnd2] at c0 c1 c2 c3
      have hoi := HO.out i hin
      rw [hnd] at hoi
      have hga := World.grownBy_alloc wr (.cells #[.int .u64 (nd.s : Nat), .int .u64 (nd.o : Nat), .int .u64 (nd.l : Nat), .int .u64 (nd.r : Nat)] 142) none
      have hsc := sons_check (HTH.out.later (grown_trans hgwr hga)) nd (by rw [hoi]; exact HS64.out i hin) kb w.heap.size b (two_held1 hkr hga) (two_held1 hWr hga)
      have HIF := Lib.hid hiff
      have HND := Lib.hid hnd
      have HOI := Lib.hid hoi
      have HKR := Lib.hid hkr
      have hna := heap_alloc_new' wr (.cells #[.int .u64 (nd.s : Nat), .int .u64 (nd.o : Nat), .int .u64 (nd.l : Nat), .int .u64 (nd.r : Nat)] 142)
      obtain ⟨m0, m1, m2, m3⟩ := four_cells hna
      clear hiff hnd hnd2 hoi hkr hNr hWr hna
      go_wp2_with (first | (go_at_call 81; (with_reducible refine hsc.mono ?_); rintro e w3 ⟨rfl, hk3, hg3⟩))
      go_roundw
      case rel =>
        refine ⟨i + 1, _, by omega, by go_num, hk3, ?_, grown_trans hgr (grown_trans (grown_any hga _) hg3)⟩
        rw [Bool.and_eq_true, Bool.and_eq_true, HIF.out, decide_eq_true_iff, decide_eq_true_iff, HOI.out]
        constructor
        · rintro ⟨⟨⟨h1, h2⟩, h3⟩, h4⟩
          refine ⟨h1, fun j hj => ?_⟩
          rcases Nat.lt_succ_iff_lt_or_eq.1 hj with h5 | rfl
          · exact h2 j h5
          · rw [HND.out]; exact ⟨h3, h4⟩
        · rintro ⟨h1, h2⟩
          have h3 := h2 i (by omega)
          rw [HND.out] at h3
          exact ⟨⟨⟨h1, fun j hj => h2 j (by omega)⟩, h3.1⟩, h3.2⟩
      case measure => simp [intOf]; omega
    · obtain rfl : i = n := by omega
      have k0 := cell_of_one hkr
      have HIF := Lib.hid hiff
      clear hiff
      go_wp2
      go_ret
      refine ⟨hgwr, b, rfl, ?_⟩
      rw [HIF.out]
      have hat : ∀ x, x ∈ S → ∃ j, j < i ∧ S.getD j 0 = x := fun x hx => by
        obtain ⟨j, hj, e⟩ := List.mem_iff_getElem.1 hx
        exact ⟨j, by have := HSL.out; omega, by rw [List.getD_eq_getElem?_getD, List.getElem?_eq_getElem hj]; exact e⟩
      constructor
      · rintro ⟨h1, h2⟩
        refine HTR.out.carry (fun x hx => ?_) h1
        obtain ⟨j, hj, rfl⟩ := hat x hx
        have h3 := HNS.out.sons j (by omega)
        rw [HO.out j hj] at h3
        have h4 := h2 j hj
        exact ⟨h4.1.trans h3.1.symm, h4.2.trans h3.2.symm⟩
      · intro ht
        obtain ⟨h1, h2⟩ := ht.same HTR.out
        refine ⟨h1, fun j hj => ?_⟩
        have h3 := HNS.out.sons j (by omega)
        rw [HO.out j hj] at h3
        have h4 := h2 (S.getD j 0) (by rw [List.getD_eq_getElem?_getD, List.getElem?_eq_getElem (by have := HSL.out; omega)]; exact List.getElem_mem _)
        exact ⟨h4.1.trans h3.1, h4.2.trans h3.2⟩
end
end Go.Proofs.YtcbdbflgfhbikaaGreat
