/-
  Texts of one layer, one behind the other: memory, contracts of the functions, and what follows of them.
  Conditions: as each theorem says.
-/
import Derived.Test.YtmcnpenihoaajaaGreatLZzc
import Derived.Test.YtmcnpenihoaajaaGreatLZzb
set_option linter.unusedVariables false
set_option linter.unusedSimpArgs false
namespace Go.Proofs.YtmcnpenihoaajaaGreat
open Go.RowKit
set_option maxRecDepth 100000
def Cop (w : World) (base : Nat) (f f' : Nat → KB) (n k : Nat) : Prop := ∀ j, j < n → (f' j).b = (f j).b ∧ (f' j).d = (f j).d ∧ (j < k → OwnW w base (kv (f' j)) (f j).d) ∧ (k ≤ j → f' j = f j)
section
variable {w w' w1 w2 : World} {F : Nat → Prop} {P all g cap n k base : Nat} {f f' : Nat → KB} {ns : List (ByteArray × Nat)} {lv : Nat → Bool} {l : List KB}
theorem Cop.later (h : Cop w base f f' n k) (hg : w.grownBy w' none) : Cop w' base f f' n k := fun j hj => by
  obtain ⟨h1, h2, h3, h4⟩ := h j hj
  exact ⟨h1, h2, fun hk => (h3 hk).later hg, h4⟩
set_option maxHeartbeats 4000000 in
theorem blocks_anyX (h : Md w F P all l ns lv) (hn : l.length ≤ 1000) (h0 : 0 < l.length) (hm : ∀ z ∈ l, z.m ≤ 1000000) :
    Calls Tryz.prog 38 #[.pointer (some ⟨P, 0, none⟩)] w fun e w' => ∃ g' cap' f f', e = .returned (.slice (some ⟨g', 0, none⟩) l.length cap') ∧ klist f l.length = l ∧ RowF w' g' cap' l.length f' ∧ w.heap.size ≤ g' ∧ Cop w' w.heap.size f f' l.length l.length ∧ w.grownBy w' none := by
  obtain ⟨g, cap, f, M, hst, hk, hPg, hFg, hFM, hmp⟩ := h.ex
  obtain ⟨n, hnl⟩ : ∃ n, l.length = n := ⟨_, rfl⟩
  have hown : ∀ j, j < l.length → OwnW w 0 (kv (f j)) (f j).d := fun j hj => h.own _ (klist_mem hk hj)
  have hmj : ∀ j, j < l.length → (f j).m ≤ 1000000 := fun j hj => hm _ (klist_mem hk hj)
  rw [hnl] at hst hk hn h0 hown hmj ⊢
  have d1 := hst.cells.2.1
  have hcl := clone_kb hst.row hn h0
  have HOW := Lib.hid hown
  have HMJ := Lib.hid hmj
  have HK := Lib.hid hk
  clear h hst hk hnl hmp hm hown hmj hFg hFM
  go_enter Tryz.func38, Tryz.ntmps38
  go_wp2_with (go_at_call 73; go_must ((with_reducible refine hcl.mono ?_); rintro e w1 ⟨g', cap', rfl, hr1, hl1, hg1⟩))
  go_loopw [14] (fun vk wr => ∃ (k : Nat) (f' : Nat → KB), k ≤ n ∧ vk = .int .i64 k ∧ RowF wr g' cap' n f' ∧ w.grownBy wr none ∧ Hid (Cop wr w.heap.size f f' n k)) (fun vk _ => n - (intOf vk).toNat)
  case atStart => exact ⟨0, f, Nat.zero_le _, rfl, hr1, hg1, Lib.hid (fun j hj => ⟨rfl, rfl, fun h => absurd h (Nat.not_lt_zero _), fun _ => rfl⟩)⟩
  case round =>
    obtain ⟨k, f', hk, rfl, hrow, hg, HC⟩ := hrel
    by_cases h1 : k < n
    · have h1' : (k : Int) < (n : Int) := by omega
      have hfk := (HC.out k h1).2.2.2 (Nat.le_refl _)
      have e5 := (hrow.cells h1).2.2.2.2.2
      rw [hfk] at e5
      obtain ⟨hwd, hwl⟩ := ownW_form ((HOW.out k h1).later hg)
      have hcw := clone_words (c := (f k).c) hwd hwl (HMJ.out k h1)
      obtain ⟨a, ha⟩ : ∃ a, (f k).a = a := ⟨_, rfl⟩
      obtain ⟨m, hm⟩ : ∃ m, (f k).m = m := ⟨_, rfl⟩
      obtain ⟨c, hc⟩ : ∃ c, (f k).c = c := ⟨_, rfl⟩
      rw [ha, hm, hc] at e5 hcw
      have HROW := Lib.hid hrow
      have HG := Lib.hid hg
      have HFK := Lib.hid hfk
      clear hwd hwl ha hm hc hrow hg hfk
      go_wp2_with (go_at_call 74; go_must ((with_reducible refine hcw.mono ?_); rintro e w2 ⟨v2, rfl, ho2, hg2⟩; obtain ⟨a2, c2, rfl⟩ := ho2.slice; have hr2 := HROW.out.later hg2; have e6 := (hr2.cells h1).2.2.2.2.2; have z6 := hr2.frz (k * 6 + 5)))
      have hr3 := hr2.set (v := .slice a2 (f k).d.length c2) (x := ⟨(f k).b, a2, (f k).d.length, c2, (f k).d⟩) h1 (show 5 < 6 by decide) (by rw [HFK.out]; rfl)
      have hg3 := grown_set w2 g' (k * 6 + 5) (.slice a2 (f k).d.length c2)
      obtain ⟨W3, hW3⟩ : ∃ W3, w2.setCell ⟨g', k * 6 + 5, none⟩ (.slice a2 (f k).d.length c2) = W3 := ⟨_, rfl⟩
      rw [hW3] at hr3 hg3
      have hgw : w.grownBy W3 none := grown_step (grown_trans HG.out hg2) hg3 (fun i hi => .inl (by injection hi with hi; omega))
      obtain ⟨cur2, hc2, _⟩ := hr2.blk
      have hkeep : ∀ {v : Value} {d : List Nat}, OwnW w2 w.heap.size v d → OwnW W3 w.heap.size v d := fun {v d} ho => by
        refine World.ownsRow.kept ho hg3 ?_
        rcases ho.2 with ⟨hv, _⟩ | ⟨q, cq, cur, hv, _, hq, _⟩
        · exact .inl (by rw [hv]; rfl)
        · refine .inr fun e => ?_
          rw [hv] at e
          have e' : some q = some g' := e
          injection e' with e'
          exact ne_typeK hq hc2 (by decide) e'
      have hsz : w.heap.size ≤ (w2.heap.size) := (grown_trans HG.out hg2).size
      have hC : Cop W3 w.heap.size f (updK f' k ⟨(f k).b, a2, (f k).d.length, c2, (f k).d⟩) n (k + 1) := fun j hj => by
        obtain ⟨q1, q2, q3, q4⟩ := HC.out j hj
        by_cases e : j = k
        · subst e
          rw [updK_same]
          exact ⟨rfl, rfl, fun _ => hkeep (OwnW.mono ho2 HG.out.size), fun h => absurd h (by omega)⟩
        · rw [updK_ne e]
          exact ⟨q1, q2, fun hjk => hkeep ((q3 (by omega)).later hg2), fun hkj => q4 (by omega)⟩
      have HC2 := Lib.hid hC
      clear hC hkeep ho2
      subst hW3
      go_wp2
      go_roundw
      case rel => exact ⟨k + 1, _, by omega, by go_num, hr3, hgw, HC2.out⟩
      case measure => simp [intOf]; omega
    · obtain rfl : k = n := by omega
      go_wp2
      go_ret
      exact ⟨g', cap', f, f', rfl, HK.out, hrow, hl1, HC.out, hg⟩
end
end Go.Proofs.YtmcnpenihoaajaaGreat
namespace Go.Proofs.YtmcnpenihoaajaaGreat
open Go.RowKit
set_option maxRecDepth 100000
theorem info_ment : (Tryz.prog.info? 99).map (fun i => (i.zero, i.size, i.bytes)) = some (some (.agg #[.string ByteArray.empty, .int .u64 0]), 2, 24) := by kernel_rfl
theorem wpList_append_ments {w2 : World} {base n m c : Nat} {v : Value} {l k : List (ByteArray × Nat)} {la : Option Addr} (hown : OwnN w2 base 99 v l) (hp : EntsAt w2 la k) (hn : l.length = n) (hk : k.length = m) (hm : n + m ≤ 1000000) (hbase : base ≤ w2.heap.size)
    {ops : Array Oper} {rest : List Oper} {o : Oper} {a : Act} {Q : Exit → Act → World → Prop} (hgd : o.guard = none) (s x : Operand)
    (ho : o.op = .call { callee := .builtin .append, args := #[s, x], argTypes := #[38, 38] })
    (hs : a.eval s = v) (hx : a.eval x = .slice la m c)
    (h : ∀ v' w', OwnN w' base 99 v' (l ++ k) → w2.grownBy w' v.ownBlock → wpList Tryz.prog ops Q rest (a.put o.dst v') w') :
    wpList Tryz.prog ops Q (o :: rest) a w2 := by
  subst hn hk
  obtain ⟨i0, hi, hz0, hz1, hz2⟩ := info_parts info_ment
  rcases la with _ | ad
  · have hm0 : k = [] := by
      cases k with
      | nil => rfl
      | cons b r =>
        obtain ⟨_, _, hb, _⟩ := hp.cells (by simp)
        cases hb
    subst hm0
    refine wpList_plain hgd fun K hK => ?_
    have hrun := run_append_empty (P := Tryz.prog) (w := w2) base 38 o.type 99 i0 2 c Tryz.underlying38 hi v l.length (cellsNm l) hown
    unfold Oper.wp
    simp only [List.length_nil] at hx
    simp [execOp, ho, resolve, invoke, builtin, hs, hx, hrun, Result.andThen]
    exact hK _ _ (h v w2 (by simpa using hown) (grown_refl _ _))
  · refine wpList_append_own_at _ hgd s x 38 ho base 99 i0 (.agg #[.string ByteArray.empty, .int .u64 0]) 2 24 Tryz.underlying38 hi hz0 hz1 hz2 rfl (by decide) v l.length (cellsNm l) hs hown ad k.length c (cellsNm k) hx (cellsNm_len k) ?_ (cellsNm_one k) (by unfold maxLen; omega) (by omega) hbase fun v' w' h1 h2 _ _ => h v' w' (by unfold OwnN; rw [cellsNm_appE, List.length_append]; exact h1) h2
    intro j u hj
    have hjm : j < k.length * 2 := by
      rcases Nat.lt_or_ge j (k.length * 2) with h' | h'
      · exact h'
      · rw [List.getElem?_eq_none (by rw [cellsNm_len]; exact h')] at hj; cases hj
    obtain ⟨b, off, hb, _, hcs⟩ := hp.cells (by omega)
    injection hb with hb
    subst hb
    have hadd : (⟨b, off, none⟩ : Addr).add j = ⟨b, off + j, none⟩ := by unfold Addr.add; split <;> simp_all
    rw [hadd]
    obtain ⟨c0, c1⟩ := hcs (j / 2) (by omega)
    obtain ⟨a0, a1⟩ := cellsNm_at k (j / 2) (by omega)
    rcases (show j % 2 = 0 ∨ j % 2 = 1 by omega) with e | e
    · rw [show j / 2 * 2 = j by omega] at a0
      rw [show off + j / 2 * 2 = off + j by omega] at c0
      rw [c0, ← hj, a0]
    · rw [show j / 2 * 2 + 1 = j by omega] at a1
      rw [show off + j / 2 * 2 + 1 = off + j by omega] at c1
      rw [c1, ← hj, a1]
theorem ments_lit (W : World) (s : ByteArray) (p : Nat) : EntsAt (W.alloc (.cells #[.string s, .int .u64 (p : Nat)] 99)) (some ⟨W.heap.size, 0, none⟩) [(s, p)] := by
  have hb := heap_alloc_new' W (.cells #[.string s, .int .u64 (p : Nat)] 99)
  refine ⟨fun _ => ⟨W.heap.size, 0, rfl, lt_of_block hb, fun k hk => ?_⟩⟩
  have hk0 : k = 0 := by simp at hk; exact hk
  subst hk0
  exact ⟨cell21 hb rfl, cell21 hb rfl⟩
theorem row_strs {w : World} {base n : Nat} {v : Value} {SL : List (ByteArray × Nat)} (h : w.ownsRow base 9 1 v n ((SL.map fun q => q.1.toList).map Go.Proofs.encStr)) (hn : SL.length = n) :
    ∃ a c, v = .slice a n c ∧ ∀ w', w.grownBy w' none → ∀ k, k < n → ∃ g, a = some ⟨g, 0, none⟩ ∧ w'.cell? ⟨g, k, none⟩ = some (.string (entS SL k)) := by
  rcases h.2 with ⟨h1, h2⟩ | ⟨g, cap, cur, hv, hb, hgg, h3, h4, h5, h6⟩
  · exact ⟨none, 0, by rw [h1, h2], fun w' hg k hk => by omega⟩
  · refine ⟨_, cap, hv, fun w' hg k hk => ⟨g, rfl, ?_⟩⟩
    have hb' := (hg.block _ (lt_of_block hgg) (by simp)).trans hgg
    refine cell21 hb' ?_
    have e1 : cur.toList[k]? = ((SL.map fun q => q.1.toList).map Go.Proofs.encStr)[k]? := by
      rw [← h6, List.getElem?_take_of_lt (by omega)]
    rw [Array.getElem?_toList] at e1
    rw [e1]
    have hk' : k < SL.length := by omega
    simp only [List.getElem?_map, List.getElem?_eq_getElem hk', Option.map_some]
    unfold entS
    rw [List.getD_eq_getElem?_getD, List.getElem?_eq_getElem hk']
    simp only [Option.getD_some, Go.Proofs.encStr, Option.some.injEq, Value.string.injEq]
    rw [ByteArray.toList_eq]
section
variable {w w' : World} {F : Nat → Prop} {P all : Nat} {ns : List (ByteArray × Nat)} {lv : Nat → Bool} {l : List KB}
set_option maxHeartbeats 4000000 in
theorem entries_any (h : Md w F P all l ns lv) (hn : ns.length ≤ 1000) (hnd : (ns.map Prod.fst).Nodup) (hsz : ∀ q ∈ ns, q.1.size ≤ maxLen) :
    Calls Tryz.prog 39 #[.pointer (some ⟨P, 0, none⟩)] w fun e w' => ∃ v', e = .returned v' ∧ OwnN w' w.heap.size 99 v' (srtE [] ns) ∧ w.grownBy w' none := by
  obtain ⟨g0, cap, f, M, hst, hk, hPg, hFg, hFM, D, hown, hD⟩ := h.ex
  obtain ⟨c0, c1, c2⟩ := hst.cells
  have hks := names_keys hown hD hnd
  have hsrt := sorted14 hown (by rw [hD.size]; unfold maxLen; omega) (by rw [hD.size]; omega)
  obtain ⟨SL, hSL⟩ : ∃ SL, srtE [] ns = SL := ⟨_, rfl⟩
  have hln : SL.length = ns.length := by rw [← hSL, srtE_len]
  have hpm : SL.Perm ns := by have := srtE_perm ns []; rw [List.nil_append, hSL] at this; exact this
  have hget : ∀ k, k < SL.length → nmGet ns (entS SL k) = some (entO SL k) := fun k hk => by
    have hm : SL.getD k (ByteArray.empty, 0) ∈ ns := by
      rw [List.getD_eq_getElem?_getD, List.getElem?_eq_getElem hk]
      exact hpm.mem_iff.1 (List.getElem_mem hk)
    obtain ⟨A, C, e⟩ := List.append_of_mem hm
    have hnd' := hnd
    rw [e] at hnd' ⊢
    exact get_at hnd'
  have hszS : ∀ k, k < SL.length → (entS SL k).size ≤ maxLen := fun k hk => by
    refine hsz (SL.getD k (ByteArray.empty, 0)) ?_
    rw [List.getD_eq_getElem?_getD, List.getElem?_eq_getElem hk]
    exact hpm.mem_iff.1 (List.getElem_mem hk)
  have hrows : ∀ (b : Nat) (w2 : World) (v : Value) (ss : List (List UInt8)), ss.Perm (Go.strKeys D) → w2.ownsRow b 9 1 v ss.length ((ss.mergeSort (fun x y => decide (x ≤ y))).map Go.Proofs.encStr) → ∃ a c, v = .slice a SL.length c ∧ ∀ w', w2.grownBy w' none → ∀ k, k < SL.length → ∃ g, a = some ⟨g, 0, none⟩ ∧ w'.cell? ⟨g, k, none⟩ = some (.string (entS SL k)) := fun b w2 v ss hp hr => by
    have hp2 := hp.trans hks.symm
    have hl2 : ss.length = SL.length := by rw [hp2.length_eq, List.length_map, hln]
    rw [keys_asc hnd hp2, hSL, hl2] at hr
    exact row_strs hr rfl
  obtain ⟨n, hN⟩ : ∃ n, ns.length = n := ⟨_, rfl⟩
  rw [hN] at hown hn hln
  rw [hln] at hget hszS hrows
  rw [hSL]
  have hat := fun s => hD.at_ s
  have gk := World.grownBy_alloc w (.cells #[.map (some M)] 91) none
  have HROWS := Lib.hid hrows
  have HGET := Lib.hid hget
  have HSZ := Lib.hid hszS
  have HAT := Lib.hid hat
  have HOWN := Lib.hid hown
  have HST := Lib.hid hst
  have HLN := Lib.hid hln
  have HGK := Lib.hid gk
  clear h hst hk hPg hFg hFM hown hD hks hSL hpm hget hszS hrows hat hN hnd hsz gk hln
  go_enter Tryz.func39, Tryz.ntmps39
  go_wp2_with (first
    | (go_at_call 76; go_must ((with_reducible refine (keys14 _ _).mono ?_); rintro e w1 ⟨rfl, rfl⟩))
    | (go_at_call 75; go_must ((with_reducible refine hsrt.mono ?_); rintro e w2 ⟨v2, ss, rfl, hperm, hrow, -, hb⟩; obtain ⟨a2, c2', rfl, hr2⟩ := HROWS.out _ _ _ _ hperm hrow; have hg2 := grown_trans HGK.out (below_grown14 hb); have HR2 := Lib.hid hr2; clear hperm hrow hb hr2)))
  go_loopw [3, 15] (fun v i wr => ∃ k : Nat, k ≤ n ∧ i = .int .i64 k ∧ OwnN wr w2.heap.size 99 v (SL.take k) ∧ w2.grownBy wr none) (fun _ i _ => n - (intOf i).toNat)
  case atStart => exact ⟨0, Nat.zero_le _, rfl, World.ownsRow_nil _ _ _ _, grown_refl _ _⟩
  case round =>
    obtain ⟨k, hk, rfl, ho, hgr⟩ := hrel
    by_cases h1 : k < n
    · have h1' : (k : Int) < (n : Int) := by omega
      have G := grown_trans hg2 hgr
      obtain ⟨g, ea, r0⟩ := HR2.out _ hgr k h1
      subst ea
      obtain ⟨s, es⟩ : ∃ s, entS SL k = s := ⟨_, rfl⟩
      obtain ⟨p, ep⟩ : ∃ p, entO SL k = p := ⟨_, rfl⟩
      have hgt := HGET.out k h1
      have hss := HSZ.out k h1
      rw [es] at r0 hgt hss
      rw [ep] at hgt
      have ha := HAT.out s
      rw [hgt] at ha
      have ha' : D.atKey (.string s.data.toList) (.lit (.int .u64 0)) = .lit (.int .u64 (p : Nat)) := ha
      have HA := Lib.hid ha'
      have hkey := keyS hss
      have HO2 := HOWN.out.kept G (by simp)
      obtain ⟨c0, c1, c2⟩ := (HST.out.later G).cells
      have hkl : k < SL.length := by rw [HLN.out]; exact h1
      have htk : SL.take (k + 1) = SL.take k ++ [(s, p)] := by
        rw [List.take_succ_eq_append_getElem hkl, ← es, ← ep]
        unfold entS entO
        rw [List.getD_eq_getElem?_getD, List.getElem?_eq_getElem hkl]; rfl
      have hlk : (SL.take k).length = k := by rw [List.length_take, HLN.out]; omega
      obtain ⟨a3, c3, e3⟩ := ho.form
      rw [hlk] at e3
      subst e3
      have hlit := ments_lit wr s p
      have hgl := World.grownBy_alloc wr (.cells #[.string s, .int .u64 (p : Nat)] 99) none
      have hol := ho.later hgl
      have HTK := Lib.hid htk
      have HLK := Lib.hid hlk
      have HK1 : Hid (k + 1 ≤ 1000000) := Lib.hid (by omega)
      have HSZ2 : Hid (w2.heap.size ≤ (wr.alloc (.cells #[.string s, .int .u64 (p : Nat)] 99)).heap.size) := Lib.hid (grown_trans hgr hgl).size
      clear es ep hgt ha ha' htk hlk hkl hss
      go_wp2_with (first
        | (at_lookup; refine wpList_lookup_own_int _ rfl _ _ 91 rfl 9 22 .u64 lawS undM undU (zeroU _) M n D rfl HO2 _ _ rfl hkey ?_; intro cc hc hwc; obtain rfl : cc = (p : Int) := by (have := HA.out; rw [hc] at this; injection this with this; injection this))
        | (at_builtin; go_must (refine wpList_append_ments hol hlit HLK.out rfl HK1.out HSZ2.out rfl _ _ rfl rfl rfl ?_); intro v7 w7 hv7 hg7))
      go_roundw
      case rel => exact ⟨k + 1, by omega, by go_num, by rw [HTK.out]; exact hv7, grown_step (grown_trans hgr hgl) hg7 (fun i hi => .inl (ho.new hi))⟩
      case measure => simp [intOf]; omega
    · obtain rfl : k = n := by omega
      have h1' : ¬ (k : Int) < (k : Int) := by omega
      have hfin : SL.take k = SL := by rw [← HLN.out, List.take_length]
      rw [hfin] at ho
      have HO := Lib.hid ho
      clear ho hfin
      go_wp2
      go_ret
      exact ⟨_, rfl, HO.out.mono hg2.size, grown_trans hg2 hgr⟩
end
end Go.Proofs.YtmcnpenihoaajaaGreat
