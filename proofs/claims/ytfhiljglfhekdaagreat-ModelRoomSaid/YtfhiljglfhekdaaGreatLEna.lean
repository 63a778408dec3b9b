/-
  Texts of one layer, one behind the other: memory, contracts of the functions, and what follows of them.
  Conditions: as each theorem says.
-/
import Derived.Test.YtfhiljglfhekdaaGreatLKfc
import Derived.Sort.Walk0
import Derived.Test.YtfhiljglfhekdaaGreatLKfd
import Derived.Test.YtfhiljglfhekdaaGreatLKfb
import Derived.Test.YtfhiljglfhekdaaGreatLKcg
import Derived.Shelf.SlIter.Nil
import Derived.Shelf.SortM.Plain
import Derived.Shelf.SortM.SortNone
set_option linter.unusedVariables false
set_option linter.unusedSimpArgs false
set_option maxRecDepth 100000
namespace Go.Proofs.YtfhiljglfhekdaaGreat
open Go.RowKit
section
def ltE (a b:ByteArray):Bool:=Op.bytesLess a.toList b.toList
theorem ltE_is (a b:ByteArray):ltE a b=true↔a.toList<b.toList:=by unfold ltE;rw [Go.Proofs.bytesLess_eq];simp
def atE (s:ByteArray):List (ByteArray × Nat)→Nat
 | []=>0
 | q::r=>if ltE s q.1=true then 0 else atE s r+1
def insE (e:ByteArray × Nat) (out:List (ByteArray × Nat)):List (ByteArray × Nat):=out.take (atE e.1 out)++e::out.drop (atE e.1 out)
def srtE:List (ByteArray × Nat)→List (ByteArray × Nat)→List (ByteArray × Nat)
 | out,[]=>out
 | out,e::r=>srtE (insE e out) r
theorem atE_le (s:ByteArray):∀ l,atE s l≤l.length
 | []=>Nat.le_refl _
 | q::r=>by
  unfold atE
  split
  ·exact Nat.zero_le _
  ·have:=atE_le s r;rw [List.length_cons];omega
theorem atE_step {s:ByteArray} {l:List (ByteArray × Nat)} {k:Nat} (hk:k<l.length):k+atE s (l.drop k)=if ltE s (entS l k)=true then k else k+1+atE s (l.drop (k+1)):=by
 have e:l.drop k=l.getD k (ByteArray.empty,0)::l.drop (k+1):=by
  rw [List.drop_eq_getElem_cons hk,List.getD_eq_getElem?_getD,List.getElem?_eq_getElem hk];rfl
 rw [e]
 show k+(if ltE s (l.getD k (ByteArray.empty,0)).1=true then 0 else atE s (l.drop (k+1))+1)=if ltE s (l.getD k (ByteArray.empty,0)).1=true then k else _
 split <;> omega
theorem insE_perm (e:ByteArray × Nat) (out:List (ByteArray × Nat)):(insE e out).Perm (e::out):=by
 unfold insE
 refine List.perm_middle.trans ?_
 rw [List.take_append_drop]
theorem srtE_perm:∀ (l out:List (ByteArray × Nat)),(srtE out l).Perm (out++l)
 | [],out=>by rw [List.append_nil];exact List.Perm.refl _
 | e::r,out=>by
  refine (srtE_perm r (insE e out)).trans ?_
  refine ((insE_perm e out).append_right r).trans ?_
  exact List.perm_middle.symm
theorem srtE_snoc (e:ByteArray × Nat):∀ (l out:List (ByteArray × Nat)),srtE out (l++[e])=insE e (srtE out l)
 | [],out=>rfl
 | a::r,out=>srtE_snoc e r (insE a out)
theorem toList_inj {a b:ByteArray} (h:a.toList=b.toList):a=b:=by
 rw [ByteArray.toList_eq,ByteArray.toList_eq] at h
 exact ByteArray.ext (Array.ext' h)
def AscE (l:List (ByteArray × Nat)):Prop:=l.Pairwise fun a b=>a.1.toList<b.1.toList
theorem takeE_at {s:ByteArray}:∀ {l:List (ByteArray × Nat)},∀ q∈l.take (atE s l),¬ s.toList<q.1.toList
 | [],q,hq=>by simp at hq
 | a::r,q,hq=>by
  unfold atE at hq
  by_cases h:ltE s a.1=true
  ·rw [if_pos h] at hq;cases hq
  ·rw [if_neg h,List.take_succ_cons] at hq
   rcases List.mem_cons.1 hq with k|k
   ·rw [k];intro h2;exact h ((ltE_is _ _).2 h2)
   ·exact takeE_at q k
theorem drop_at {s:ByteArray}:∀ {l:List (ByteArray × Nat)},AscE l→∀ q∈l.drop (atE s l),s.toList<q.1.toList
 | [],_,q,hq=>by simp at hq
 | a::r,ha,q,hq=>by
  unfold atE at hq
  by_cases h:ltE s a.1=true
  ·rw [if_pos h,List.drop_zero] at hq
   have h1:=(ltE_is _ _).1 h
   rcases List.mem_cons.1 hq with k|k
   ·rw [k];exact h1
   ·exact List.lt_trans h1 ((List.pairwise_cons.1 ha).1 q k)
  ·rw [if_neg h,List.drop_succ_cons] at hq
   exact drop_at (List.pairwise_cons.1 ha).2 q hq
theorem insE_asc {e:ByteArray × Nat} {out:List (ByteArray × Nat)} (h:AscE out) (hn:∀ q∈out,q.1≠e.1):AscE (insE e out):=by
 have h0:=h
 unfold AscE at h0
 rw [← List.take_append_drop (atE e.1 out) out] at h0
 obtain ⟨h1,h2,h3⟩:=List.pairwise_append.1 h0
 unfold AscE insE
 refine List.pairwise_append.2 ⟨h1,List.pairwise_cons.2 ⟨fun q hq=>drop_at h q hq,h2⟩,fun a ha b hb=>?_⟩
 have hlt:a.1.toList<e.1.toList:=by
  have q1:=takeE_at a ha
  rcases List.le_iff_lt_or_eq.1 (List.not_lt.1 q1) with q|q
  ·exact q
  ·exact absurd (toList_inj q) (hn a (List.mem_of_mem_take ha))
 rcases List.mem_cons.1 hb with k|k
 ·rw [k];exact hlt
 ·exact List.lt_trans hlt (drop_at h b k)
theorem srtE_asc:∀ (l out:List (ByteArray × Nat)),AscE out→((out++l).map Prod.fst).Nodup→AscE (srtE out l)
 | [],out,h,_=>h
 | e::r,out,h,hn=>by
  have hp:((insE e out++r).map Prod.fst).Perm ((out++e::r).map Prod.fst):=by
   refine List.Perm.map _ ?_
   exact ((insE_perm e out).append_right r).trans List.perm_middle.symm
  refine srtE_asc r (insE e out) (insE_asc h fun q hq k=>?_) (hp.nodup_iff.2 hn)
  rw [List.map_append,List.map_cons] at hn
  exact (List.nodup_append.1 hn).2.2 _ (List.mem_map_of_mem hq) _ (by simp) k
theorem keys_asc {nm:List (ByteArray × Nat)} {ss:List (List UInt8)} (hn:(nm.map Prod.fst).Nodup) (hs:ss.Perm (nm.map fun q=>q.1.toList)):ss.mergeSort (fun x y=>decide (x≤y))=(srtE [] nm).map fun q=>q.1.toList:=by
 have h1:(ss.mergeSort (fun x y=>decide (x≤y))).Perm ((srtE [] nm).map fun q=>q.1.toList):=by
  refine (List.mergeSort_perm _ _).trans (hs.trans ?_)
  have h0:=srtE_perm nm []
  rw [List.nil_append] at h0
  exact h0.symm.map fun q=>q.1.toList
 have h2:=List.pairwise_mergeSort (le:=fun x y:List UInt8=>decide (x≤y)) (fun a b c h k=>by simp at h k ⊢;exact List.le_trans h k) (fun a b=>by simp;exact List.le_total a b) ss
 have h3:=srtE_asc nm [] List.Pairwise.nil (by simpa using hn)
 refine List.Perm.eq_of_pairwise (le:=fun a b=>a≤b) (fun a b _ _ h k=>List.le_antisymm h k) (h2.imp fun h=>by simpa using h) ?_ h1
 exact List.pairwise_map.2 (h3.imp fun h=>List.le_of_lt h)
end
section
structure EnI (S:MS) (W0:World) (v:Value) (k:Nat) (W:World):Prop where
 ow:OwnN W W0.heap.size 86 v (srtE [] (S.nm.take k))
 gr:W0.grownBy W none
 nz:k=0→v=.slice none 0 0
theorem srtE_len (l:List (ByteArray × Nat)):(srtE [] l).length=l.length:=by
 have:=(srtE_perm l []).length_eq
 rwa [List.nil_append] at this
theorem Ycc.nil {w:World} (la:Option Addr):Ycc w la []:=⟨fun h=>by cases h⟩
theorem Ycc.take {w:World} {la:Option Addr} {l:List (ByteArray × Nat)} (h:Ycc w la l) (A:Nat):Ycc w la (l.take A):=⟨fun hn=>by
 have hl:(l.take A).length≤l.length:=by rw [List.length_take];omega
 obtain ⟨b,off,h1,h2,h3⟩:=h.cells (by omega)
 refine ⟨b,off,h1,h2,fun k hk=>?_⟩
 have e:(l.take A).getD k (ByteArray.empty,0)=l.getD k (ByteArray.empty,0):=by
  rw [List.length_take] at hk
  rw [List.getD_eq_getElem?_getD,List.getD_eq_getElem?_getD,List.getElem?_take_of_lt (by omega)]
 have:=h3 k (by omega)
 unfold entS entO at *
 rw [e];exact this⟩
theorem Ycc.drop {w:World} {g:Nat} {l:List (ByteArray × Nat)} (h:Ycc w (some ⟨g,0,none⟩) l) (A:Nat):Ycc w (some ⟨g,A*2,none⟩) (l.drop A):=⟨fun hn=>by
 rw [List.length_drop] at hn
 obtain ⟨b,off,h1,h2,h3⟩:=h.cells (by omega)
 injection h1 with h1
 injection h1 with e1 e2
 subst e1 e2
 refine ⟨g,A*2,rfl,h2,fun k hk=>?_⟩
 rw [List.length_drop] at hk
 have e:(l.drop A).getD k (ByteArray.empty,0)=l.getD (A+k) (ByteArray.empty,0):=by
  rw [List.getD_eq_getElem?_getD,List.getD_eq_getElem?_getD,List.getElem?_drop]
 have:=h3 (A+k) (by omega)
 unfold entS entO at *
 rw [e,show A*2+k*2=0+(A+k)*2 by omega];exact this⟩
section
variable {w w' W:World} {F:Nat→Prop} {base all K c i:Nat} {v:Value} {S:MS}
set_option maxHeartbeats 4000000 in
theorem rentries14 (h:StIs w F base v all S) (hlen:S.nm.length≤1000) (hbw:base≤w.heap.size) :
  Calls Tryz.prog 28 #[v] w fun e w'=>∃ v',e=.returned v'∧OwnN w' w.heap.size 86 v' (srtE [] S.nm)∧w.grownBy w' none:=by
 obtain ⟨cs,rfl,hs0,hs1,hs00,hsl⟩:=h.cells
 obtain ⟨na,nn,nc,hc12,hon,-⟩:=h.entries
 obtain ⟨a9,c9,g9,e9,e10,e11⟩:=hon.addr
 injection e9 with k1 k2 k3
 obtain ⟨n,hN⟩:∃ n,S.nm.length=n:=⟨_,rfl⟩
 rw [hN] at k2 hlen e10 e11
 subst k1 k3
 have b1:=Yab w (.cells cs 36)
 have hg:=World.grownBy_alloc w (.cells cs 36) none
 obtain ⟨W0,hW0⟩:∃ W0,w.alloc (.cells cs 36)=W0:=⟨_,rfl⟩
 rw [hW0] at b1 hg
 have hstx:∀ V,W0.grownBy V none→V.heap[w.heap.size]?=some (.cells cs 36 (0,0)):=fun V hV=>(hV.block _ (lt_of_block b1) (by simp)).trans b1
 rw [k2] at hon hc12
 have hrow:∀ V,W0.grownBy V none→∀ k,k<n→na=some ⟨g9,0,none⟩∧V.cell? ⟨g9,k*2,none⟩=some (.string (entS S.nm k))∧V.cell? ⟨g9,k*2+1,none⟩=some (.int .u64 (entO S.nm k:Nat)):=fun V hV k hk=>⟨e10 (by omega),e11 V (by rw [k2];exact hon.later (Yaa hg hV)) k hk⟩
 have H00:EnI S W0 (.slice none 0 0) 0 W0:=⟨World.ownsRow_nil _ _ _ _,Yag _ _,fun _=>rfl⟩
 have cy:=Yas b1 hc12
 have HC12:=Lib.hid hc12
 have HSTX:=Lib.hid hstx
 have HROW:=Lib.hid hrow
 have HN:=Lib.hid hN
 have HG:=Lib.hid hg
 have H0:=Lib.hid H00
 clear hon e10 e11 hN hstx hrow hg H00 hc12 b1 k2 h hs00 hsl
 go_enter Tryz.func28,Tryz.ntmps28
 go_wp2
 clear hW0 cy
 go_loopw [4,3] (fun i v wr=>∃ k:Nat,k≤n∧i=.int .i64 k∧EnI S W0 v k wr) (fun i _ _=>n - (intOf i).toNat)
 case atStart=>exact ⟨0,Nat.zero_le _,rfl,H0.out⟩
 case round =>
  obtain ⟨k,hk,rfl,HI⟩:=hrel
  by_cases h1:k<n
  ·have h1':(k:Int)<(n:Int):=by omega
   obtain ⟨ho,G,hnz⟩:=HI
   obtain ⟨L,hL⟩:∃ L,srtE [] (S.nm.take k)=L:=⟨_,rfl⟩
   have hLk:L.length=k:=by rw [← hL,srtE_len,List.length_take,HN.out];omega
   rw [hL] at ho
   obtain ⟨a3,c3,g3,e3,e4,e5⟩:=ho.addr
   subst e3
   have ho3:=ho
   rw [hLk] at e4 e5
   rw [hLk] at ho
   rw [hLk]
   have cy:=Yas (HSTX.out wr G) HC12.out
   obtain ⟨s,es⟩:∃ s,entS S.nm k=s:=⟨_,rfl⟩
   have hrs:=fun V hV=>HROW.out V hV k h1
   rw [es] at hrs
   have HRS:=Lib.hid hrs
   have ho5:∀ V,wr.grownBy V none→∀ j,j<k→a3=some ⟨g3,0,none⟩∧V.cell? ⟨g3,j*2,none⟩=some (.string (entS L j)):=fun V hV j hj=>⟨e4 (by omega),(e5 V (ho.later hV) j hj).1⟩
   have HO5:=Lib.hid ho5
   clear hrs ho5
   have HLK:=Lib.hid hLk
   have HLS:=Lib.hid hL
   have HO:=Lib.hid ho
   have HNZ:=Lib.hid hnz
   have hkl:k<S.nm.length:=by rw [HN.out];exact h1
   have htk:S.nm.take (k+1)=S.nm.take k++[(s,entO S.nm k)]:=by
    rw [List.take_succ_eq_append_getElem hkl,← es]
    unfold entS entO
    rw [List.getD_eq_getElem?_getD,List.getElem?_eq_getElem hkl];rfl
   obtain ⟨p,ep⟩:∃ p,entO S.nm k=p:=⟨_,rfl⟩
   rw [ep] at htk
   have HTK:=Lib.hid htk
   have HRP:Hid (∀ (V:World),W0.grownBy V none→na=some ⟨g9,0,none⟩∧V.cell? ⟨g9,k*2,none⟩=some (.string s)∧V.cell? ⟨g9,k*2+1,none⟩=some (.int .u64 (p:Nat))):=Lib.hid (fun V hV=>by have:=HRS.out V hV;rw [ep] at this;exact this)
   clear hL es e4 e5 ho ho3 hnz hkl htk ep
   go_wp2
   go_loopw [6,5] (fun i at_ W=>∃ j:Nat,j≤k∧i=.int .i64 ((j:Int) - 1)∧at_=.int .i64 ((j+atE s (L.drop j):Nat):Int)∧wr.grownBy W none) (fun i _ _=>(intOf i+1).toNat)
   case atStart =>
    refine ⟨k,Nat.le_refl _,rfl,?_,Yag _ _⟩
    rw [List.drop_of_length_le (by rw [HLK.out];exact Nat.le_refl _)]
    rfl
   case round =>
    obtain ⟨j,hj,rfl,rfl,G2⟩:=hrel
    cases j with
    | succ j =>
    have G3:=Yaa G G2
    rw [show ((j+1:Nat):Int) - 1=(j:Int) by omega]
    have h0:(0:Int)≤(j:Int):=by omega
    have hst:=atE_step (s:=s) (l:=L) (k:=j) (by rw [HLK.out];omega)
    obtain ⟨ea3,f0⟩:=HO5.out _ G2 j (by omega)
    obtain ⟨ena,r0,r1⟩:=HRS.out _ G3
    have cy:=Yas (HSTX.out _ G3) HC12.out
    subst ea3 ena
    obtain ⟨t,et⟩:∃ t,entS L j=t:=⟨_,rfl⟩
    rw [et] at hst f0
    have HST:=Lib.hid hst
    have h1j:(j:Int)<(k:Int):=by omega
    clear hst
    go_wp2
    refine wp_region_held_drew (S:=fun V=>V.cell? ⟨w.heap.size,12,none⟩=some (.slice (some ⟨g9,0,none⟩) n nc)∧V.cell? ⟨g9,k*2,none⟩=some (.string s)∧V.cell? ⟨g3,j*2,none⟩=some (.string t)) (by kernel_rfl) ⟨cy,r0,f0⟩ (fun hHeld=>?_)
    refine hY 0 24 (v:=?_) rfl rfl hHeld ?y0 ?r0
    case y0=>(intro w hSw;(try dsimp only at hSw);go_simp;try (with_reducible rfl))
    case r0 =>
    simp only [Act.put,List.setIfInBounds_toArray,List.set_cons_zero,List.set_cons_succ]
    refine hY 1 25 (v:=?_) rfl rfl hHeld ?y1 ?r1
    case y1=>(intro w hSw;(try dsimp only at hSw);go_simp;try (with_reducible rfl))
    case r1 =>
    simp only [Act.put,List.setIfInBounds_toArray,List.set_cons_zero,List.set_cons_succ]
    refine hY 2 26 (v:=?_) rfl rfl hHeld ?y2 ?r2
    case y2=>(intro w hSw;(try dsimp only at hSw);go_simp;try (with_reducible rfl))
    case r2 =>
    simp only [Act.put,List.setIfInBounds_toArray,List.set_cons_zero,List.set_cons_succ]
    refine hY 3 27 (v:=?_) rfl rfl hHeld ?y3 ?r3
    case y3=>(intro w hSw;(try dsimp only at hSw);go_simp;try (with_reducible rfl))
    case r3 =>
    simp only [Act.put,List.setIfInBounds_toArray,List.set_cons_zero,List.set_cons_succ]
    refine hY 4 28 (v:=?_) rfl rfl hHeld ?y4 ?r4
    case y4=>(intro w hSw;(try dsimp only at hSw);go_simp;try (with_reducible rfl))
    case r4 =>
    simp only [Act.put,List.setIfInBounds_toArray,List.set_cons_zero,List.set_cons_succ]
    refine hY 5 29 (v:=?_) rfl rfl hHeld ?y5 ?r5
    case y5=>(intro w hSw;(try dsimp only at hSw);go_simp;try (with_reducible rfl))
    case r5 =>
    simp only [Act.put,List.setIfInBounds_toArray,List.set_cons_zero,List.set_cons_succ]
    refine hY 6 30 (v:=?_) rfl rfl hHeld ?y6 ?r6
    case y6=>(intro w hSw;(try dsimp only at hSw);go_simp;try (with_reducible rfl))
    case r6 =>
    simp only [Act.put,List.setIfInBounds_toArray,List.set_cons_zero,List.set_cons_succ]
    refine hY 7 31 (v:=?_) rfl rfl hHeld ?y7 ?r7
    case y7=>(intro w hSw;(try dsimp only at hSw);go_simp;try (with_reducible rfl))
    case r7 =>
    simp only [Act.put,List.setIfInBounds_toArray,List.set_cons_zero,List.set_cons_succ]
    refine hY 8 32 (v:=?_) rfl rfl hHeld ?y8 ?r8
    case y8=>(intro w hSw;(try dsimp only at hSw);go_simp;try (with_reducible rfl))
    case r8 =>
    simp only [Act.put,List.setIfInBounds_toArray,List.set_cons_zero,List.set_cons_succ]
    refine hY 9 33 (v:=?_) rfl rfl hHeld ?y9 ?r9
    case y9=>(intro w hSw;(try dsimp only at hSw);go_simp;try (with_reducible rfl))
    case r9 =>
    simp only [Act.put,List.setIfInBounds_toArray,List.set_cons_zero,List.set_cons_succ]
    refine hY 10 34 (v:=?_) rfl rfl hHeld ?y10 ?r10
    case y10=>(intro w hSw;(try dsimp only at hSw);go_simp;try (with_reducible rfl))
    case r10 =>
    simp only [Act.put,List.setIfInBounds_toArray,List.set_cons_zero,List.set_cons_succ]
    refine hY 11 35 (v:=?_) rfl rfl hHeld ?y11 ?r11
    case y11=>(intro w hSw;(try dsimp only at hSw);go_simp;try (with_reducible rfl))
    case r11 =>
    simp only [Act.put,List.setIfInBounds_toArray,List.set_cons_zero,List.set_cons_succ]
    refine wpAnyH_done (by kernel_rfl) ?_ _
    have G4:=Yaa G2 (Yah (Yag wr none))
    go_wp2
    ·go_roundw
     case rel =>
      refine ⟨j,by omega,by go_num,?_,G4⟩
      rw [HST.out,if_pos (show ltE s t=true by assumption)]
     case measure=>simp [intOf] <;> omega
    ·go_roundw
     case rel =>
      have hn:¬ ltE s t=true:=by rw [show ltE s t=false by assumption];decide
      have e:=HST.out
      rw [if_neg hn] at e
      refine ⟨j,by omega,by go_num,?_,G4⟩
      rw [e]
      simp
     case measure=>simp [intOf] <;> omega
    | zero =>
    have h0:¬ (0:Int) ≤ -1:=by decide
    rw [show ((0:Nat):Int) - 1 = -1 from rfl,Nat.zero_add,List.drop_zero]
    obtain ⟨A,hA⟩:∃ A,atE s L=A:=⟨_,rfl⟩
    have hAk:=atE_le s L
    rw [hA,HLK.out] at hAk
    rw [hA]
    have HAT:=Lib.hid hA
    have G3:=Yaa G G2
    have ho2:=HO.out.later G2
    clear hA
    have HL1:Hid ((L.take A).length=A):=Lib.hid (by rw [List.length_take,HLK.out];omega)
    have HL2:Hid ((L.drop A).length=k - A):=Lib.hid (by rw [List.length_drop,HLK.out])
    have HL3:Hid ((L.take A++[(s,p)]).length=A+1):=Lib.hid (by rw [List.length_append,HL1.out];rfl)
    have HA6:Hid (A≤1000000):=Lib.hid (by omega)
    have HA7:Hid (A+1≤1000000):=Lib.hid (by omega)
    have HK6:Hid (A+1+(k - A)≤1000000):=Lib.hid (by omega)
    have hem:=own_emptyE wr wr.heap.size (Nat.le_refl _)
    have hge:=World.grownBy_alloc wr (.cells #[] 86) none
    rcases Nat.eq_zero_or_pos k with rfl|hkp
    ·obtain rfl:A=0:=by omega
     have hz:=HNZ.out rfl
     injection hz with q1 q2 q3
     subst q1 q3
     have hd:L=[]:=List.length_eq_zero_iff.1 HLK.out
     have hE1:∀ V:World,wr.grownBy V none→Ycc V none (L.take 0):=fun V _=>Ycc.nil _
     have hE2:∀ V:World,wr.grownBy V none→Ycc V none (L.drop 0):=fun V _=>by rw [hd];exact Ycc.nil _
     clear hd
     go_wp2_with (first
      | (at_builtin;(refine Ya2 hem (hE1 _ hge) rfl HL1.out (Nat.le_trans (Nat.le_of_eq (Nat.zero_add _)) HA6.out) hge.size rfl _ _ rfl rfl rfl ?_);intro v6 w6 hv6 hg6;rw [List.nil_append] at hv6;have hg6n:wr.grownBy w6 none:=Yap (Yaa (Yam hge _) hg6) (Nat.le_refl _);have G6:=Yaa G3 hg6n;have cy6:=Yas (HSTX.out _ G6) HC12.out;obtain ⟨ena,r6,r7⟩:=HRP.out _ G6;subst ena;have hlit:=ents_lit w6 s p;have hgl:=World.grownBy_alloc w6 (.cells #[.string s,.int .u64 (p:Nat)] 86) none)
      | (at_builtin;(refine Ya2 (hv6.later hgl) hlit HL1.out rfl HA7.out (Nat.le_trans hg6n.size hgl.size) rfl _ _ rfl rfl rfl ?_);intro v7 w7 hv7 hg7;have hg7n:wr.grownBy w7 none:=Yaj (Yaa hg6n hgl) hg7 (fun i hi=>.inl (hv6.new hi));have he2:=hE2 _ hg7n)
      | (at_builtin;go_must (refine Ya2 hv7 he2 HL3.out HL2.out HK6.out hg7n.size rfl _ _ rfl rfl rfl ?_);intro v8 w8 hv8 hg8;have hg8n:wr.grownBy w8 none:=Yaj hg7n hg8 (fun i hi=>.inl (hv7.new hi))))
     go_roundw
     case rel =>
      refine ⟨0+1,by omega,by go_num,⟨?_,Yaa G3 hg8n,fun h=>by omega⟩⟩
      rw [HTK.out,srtE_snoc,HLS.out]
      unfold insE
      rw [HAT.out]
      rw [List.append_assoc,List.singleton_append] at hv8
      exact hv8.mono G3.size
     case measure=>simp [intOf] <;> omega
    obtain ⟨a',c',e',hle,-,hen⟩:=ho2.ents
    injection e' with q1 q2 q3
    subst q1 q3
    rw [HLK.out] at hle
    clear q2
    obtain ⟨ea3,-⟩:=HO5.out _ G2 0 hkp
    subst ea3
    have hA0:¬ (A:Int)<0:=by omega
    have hAk2:(A:Int)≤(k:Int):=by omega
    have hE1:∀ V:World,wr.grownBy V none→Ycc V (some ⟨g3,0,none⟩) (L.take A):=fun V hV=>(hen.take A).later hV
    have hAc:(A:Int)≤(c3:Int):=by omega
    by_cases hcc:c3=A
    ·have hd:L.drop A=[]:=List.drop_of_length_le (by rw [HLK.out];omega)
     have hE2:∀ V:World,wr.grownBy V none→Ycc V (some ⟨g3,0,none⟩) (L.drop A):=fun V _=>by rw [hd];exact Ycc.nil _
     clear hd
     go_wp2_with (first
      | (at_builtin;(refine Ya2 hem (hE1 _ hge) rfl HL1.out (Nat.le_trans (Nat.le_of_eq (Nat.zero_add _)) HA6.out) hge.size rfl _ _ rfl rfl rfl ?_);intro v6 w6 hv6 hg6;rw [List.nil_append] at hv6;have hg6n:wr.grownBy w6 none:=Yap (Yaa (Yam hge _) hg6) (Nat.le_refl _);have G6:=Yaa G3 hg6n;have cy6:=Yas (HSTX.out _ G6) HC12.out;obtain ⟨ena,r6,r7⟩:=HRP.out _ G6;subst ena;have hlit:=ents_lit w6 s p;have hgl:=World.grownBy_alloc w6 (.cells #[.string s,.int .u64 (p:Nat)] 86) none)
      | (at_builtin;(refine Ya2 (hv6.later hgl) hlit HL1.out rfl HA7.out (Nat.le_trans hg6n.size hgl.size) rfl _ _ rfl rfl rfl ?_);intro v7 w7 hv7 hg7;have hg7n:wr.grownBy w7 none:=Yaj (Yaa hg6n hgl) hg7 (fun i hi=>.inl (hv6.new hi));have he2:=hE2 _ hg7n)
      | (at_builtin;go_must (refine Ya2 hv7 he2 HL3.out HL2.out HK6.out hg7n.size rfl _ _ rfl rfl rfl ?_);intro v8 w8 hv8 hg8;have hg8n:wr.grownBy w8 none:=Yaj hg7n hg8 (fun i hi=>.inl (hv7.new hi))))
     go_roundw
     case rel =>
      refine ⟨k+1,by omega,by go_num,⟨?_,Yaa G3 hg8n,fun h=>by omega⟩⟩
      rw [HTK.out,srtE_snoc,HLS.out]
      unfold insE
      rw [HAT.out]
      rw [List.append_assoc,List.singleton_append] at hv8
      exact hv8.mono G3.size
     case measure=>simp [intOf] <;> omega
    ·have hE2:∀ V:World,wr.grownBy V none→Ycc V (some ⟨g3,A*2,none⟩) (L.drop A):=fun V hV=>(hen.drop A).later hV
     clear hen
     go_wp2_with (first
      | (at_builtin;(refine Ya2 hem (hE1 _ hge) rfl HL1.out (Nat.le_trans (Nat.le_of_eq (Nat.zero_add _)) HA6.out) hge.size rfl _ _ rfl rfl rfl ?_);intro v6 w6 hv6 hg6;rw [List.nil_append] at hv6;have hg6n:wr.grownBy w6 none:=Yap (Yaa (Yam hge _) hg6) (Nat.le_refl _);have G6:=Yaa G3 hg6n;have cy6:=Yas (HSTX.out _ G6) HC12.out;obtain ⟨ena,r6,r7⟩:=HRP.out _ G6;subst ena;have hlit:=ents_lit w6 s p;have hgl:=World.grownBy_alloc w6 (.cells #[.string s,.int .u64 (p:Nat)] 86) none)
      | (at_builtin;(refine Ya2 (hv6.later hgl) hlit HL1.out rfl HA7.out (Nat.le_trans hg6n.size hgl.size) rfl _ _ rfl rfl rfl ?_);intro v7 w7 hv7 hg7;have hg7n:wr.grownBy w7 none:=Yaj (Yaa hg6n hgl) hg7 (fun i hi=>.inl (hv6.new hi));have he2:=hE2 _ hg7n)
      | (at_builtin;go_must (refine Ya2 hv7 he2 HL3.out HL2.out HK6.out hg7n.size rfl _ _ rfl rfl rfl ?_);intro v8 w8 hv8 hg8;have hg8n:wr.grownBy w8 none:=Yaj hg7n hg8 (fun i hi=>.inl (hv7.new hi))))
     go_roundw
     case rel =>
      refine ⟨k+1,by omega,by go_num,⟨?_,Yaa G3 hg8n,fun h=>by omega⟩⟩
      rw [HTK.out,srtE_snoc,HLS.out]
      unfold insE
      rw [HAT.out]
      rw [List.append_assoc,List.singleton_append] at hv8
      exact hv8.mono G3.size
     case measure=>simp [intOf] <;> omega
  ·obtain rfl:k=n:=by omega
   have h1':¬ (k:Int)<(k:Int):=by omega
   obtain ⟨ho,G,-⟩:=HI
   have cy:=Yas (HSTX.out wr G) HC12.out
   have hfin:S.nm.take k=S.nm:=by rw [← HN.out,List.take_length]
   rw [hfin] at ho
   have HO:=Lib.hid ho
   clear ho hfin
   go_wp2
   go_ret
   exact ⟨_,rfl,HO.out.mono HG.out.size,Yaa HG.out G⟩
end
end
section
open Go.RowKit Go.Maps Go.Sort Go.Shelf
def keysL_ren:Go.Shelf.Ren:=⟨fun|7=>45|10=>75|n=>n,fun|23=>89|26=>9|3=>26|28=>105|0=>0|27=>104|33=>118|4=>4|n=>n,fun n=>n⟩
theorem keysL:Go.Proofs.SlLaysZ.n7 Tryz.prog keysL_ren where
 mixed:=by kernel_rfl
 f7:=⟨(Tryz.f45).name,by kernel_rfl,Tryz.func45.trans (congrArg some (by kernel_rfl))⟩
 f10:=⟨(Tryz.f75).name,by kernel_rfl,Tryz.func75.trans (congrArg some (by kernel_rfl))⟩
 t0:=Tryz.underlying0
 a0:=Tryz.isAgg0
 z0:=Tryz.sizeOf0
 v0:=Tryz.zeroValue0
 t4:=Tryz.underlying4
 a4:=Tryz.isAgg4
 z4:=Tryz.sizeOf4
 v4:=Tryz.zeroValue4
 t23:=Tryz.underlying89
 a23:=Tryz.isAgg89
 z23:=Tryz.sizeOf89
 v23:=Tryz.zeroValue89
 t26:=Tryz.underlying9
 a26:=Tryz.isAgg9
 z26:=Tryz.sizeOf9
 v26:=Tryz.zeroValue9
 t27:=Tryz.underlying104
 a27:=Tryz.isAgg104
 z27:=Tryz.sizeOf104
 v27:=Tryz.zeroValue104
 t28:=Tryz.underlying105
 a28:=Tryz.isAgg105
 z28:=Tryz.sizeOf105
 v28:=Tryz.zeroValue105
 t33:=Tryz.underlying118
 a33:=Tryz.isAgg118
 z33:=Tryz.sizeOf118
 v33:=Tryz.zeroValue118
def sortedL_ren:Go.Shelf.Ren:=⟨fun|6=>44|8=>73|9=>74|11=>102|13=>104|12=>103|23=>132|24=>133|14=>123|15=>124|16=>125|17=>126|18=>127|19=>128|20=>129|21=>130|22=>131|25=>141|26=>142|27=>143|28=>144|29=>145|30=>146|31=>149|n=>n,fun|26=>9|28=>105|24=>102|0=>0|3=>3|37=>153|48=>179|50=>26|4=>4|40=>172|39=>171|45=>145|5=>5|9=>9|51=>184|55=>187|57=>191|58=>129|33=>118|n=>n,fun n=>n⟩
theorem sortedL:Go.Proofs.SlLaysZ.n6 Tryz.prog sortedL_ren where
 mixed:=by kernel_rfl
 f6:=⟨(Tryz.f44).name,by kernel_rfl,Tryz.func44.trans (congrArg some (by kernel_rfl))⟩
 f8:=⟨(Tryz.f73).name,by kernel_rfl,Tryz.func73.trans (congrArg some (by kernel_rfl))⟩
 f11:=⟨(Tryz.f102).name,by kernel_rfl,Tryz.func102.trans (congrArg some (by kernel_rfl))⟩
 t0:=Tryz.underlying0
 a0:=Tryz.isAgg0
 z0:=Tryz.sizeOf0
 v0:=Tryz.zeroValue0
 t24:=Tryz.underlying102
 a24:=Tryz.isAgg102
 z24:=Tryz.sizeOf102
 v24:=Tryz.zeroValue102
 t26:=Tryz.underlying9
 a26:=Tryz.isAgg9
 z26:=Tryz.sizeOf9
 v26:=Tryz.zeroValue9
 t28:=Tryz.underlying105
 a28:=Tryz.isAgg105
 z28:=Tryz.sizeOf105
 v28:=Tryz.zeroValue105
 i26:=by kernel_rfl
def sortL_ren:Go.Shelf.Ren:=⟨fun|6=>74|8=>104|9=>103|19=>132|20=>133|21=>123|22=>124|23=>125|24=>126|25=>127|26=>128|27=>129|28=>130|29=>131|36=>141|31=>142|32=>143|37=>144|38=>145|39=>146|41=>149|n=>n,fun|27=>102|29=>9|3=>3|32=>153|26=>102|0=>0|44=>179|46=>26|4=>4|36=>172|35=>171|41=>145|5=>5|9=>9|53=>184|57=>187|63=>191|64=>129|n=>n,fun n=>n⟩
theorem sortL:Go.Proofs.SlLaysM.n6 Tryz.prog sortL_ren where
 mixed:=by kernel_rfl
 f6:=⟨(Tryz.f74).name,by kernel_rfl,Tryz.func74.trans (congrArg some (by kernel_rfl))⟩
 f8:=Tryz.func104.trans (congrArg some (by kernel_rfl))
 f9:=⟨(Tryz.f103).name,by kernel_rfl,Tryz.func103.trans (congrArg some (by kernel_rfl))⟩
 f19:=Tryz.func132.trans (congrArg some (by kernel_rfl))
 f20:=Tryz.func133.trans (congrArg some (by kernel_rfl))
 f21:=⟨(Tryz.f123).name,by kernel_rfl,Tryz.func123.trans (congrArg some (by kernel_rfl))⟩
 f22:=⟨(Tryz.f124).name,by kernel_rfl,Tryz.func124.trans (congrArg some (by kernel_rfl))⟩
 f23:=⟨(Tryz.f125).name,by kernel_rfl,Tryz.func125.trans (congrArg some (by kernel_rfl))⟩
 f24:=⟨(Tryz.f126).name,by kernel_rfl,Tryz.func126.trans (congrArg some (by kernel_rfl))⟩
 f25:=⟨(Tryz.f127).name,by kernel_rfl,Tryz.func127.trans (congrArg some (by kernel_rfl))⟩
 f26:=⟨(Tryz.f128).name,by kernel_rfl,Tryz.func128.trans (congrArg some (by kernel_rfl))⟩
 f27:=⟨(Tryz.f129).name,by kernel_rfl,Tryz.func129.trans (congrArg some (by kernel_rfl))⟩
 f28:=⟨(Tryz.f130).name,by kernel_rfl,Tryz.func130.trans (congrArg some (by kernel_rfl))⟩
 f29:=⟨(Tryz.f131).name,by kernel_rfl,Tryz.func131.trans (congrArg some (by kernel_rfl))⟩
 f31:=Tryz.func142.trans (congrArg some (by kernel_rfl))
 f32:=Tryz.func143.trans (congrArg some (by kernel_rfl))
 f36:=⟨(Tryz.f141).name,by kernel_rfl,Tryz.func141.trans (congrArg some (by kernel_rfl))⟩
 f37:=⟨(Tryz.f144).name,by kernel_rfl,Tryz.func144.trans (congrArg some (by kernel_rfl))⟩
 f38:=⟨(Tryz.f145).name,by kernel_rfl,Tryz.func145.trans (congrArg some (by kernel_rfl))⟩
 f39:=⟨(Tryz.f146).name,by kernel_rfl,Tryz.func146.trans (congrArg some (by kernel_rfl))⟩
 f41:=⟨(Tryz.f149).name,by kernel_rfl,Tryz.func149.trans (congrArg some (by kernel_rfl))⟩
 t0:=Tryz.underlying0
 a0:=Tryz.isAgg0
 z0:=Tryz.sizeOf0
 v0:=Tryz.zeroValue0
 t3:=Tryz.underlying3
 a3:=Tryz.isAgg3
 z3:=Tryz.sizeOf3
 v3:=Tryz.zeroValue3
 t4:=Tryz.underlying4
 a4:=Tryz.isAgg4
 z4:=Tryz.sizeOf4
 v4:=Tryz.zeroValue4
 t5:=Tryz.underlying5
 a5:=Tryz.isAgg5
 z5:=Tryz.sizeOf5
 v5:=Tryz.zeroValue5
 t9:=Tryz.underlying9
 a9:=Tryz.isAgg9
 z9:=Tryz.sizeOf9
 v9:=Tryz.zeroValue9
 t26:=Tryz.underlying102
 a26:=Tryz.isAgg102
 z26:=Tryz.sizeOf102
 v26:=Tryz.zeroValue102
 t27:=Tryz.underlying102
 a27:=Tryz.isAgg102
 z27:=Tryz.sizeOf102
 v27:=Tryz.zeroValue102
 t29:=Tryz.underlying9
 a29:=Tryz.isAgg9
 z29:=Tryz.sizeOf9
 v29:=Tryz.zeroValue9
 t32:=Tryz.underlying153
 a32:=Tryz.isAgg153
 z32:=Tryz.sizeOf153
 v32:=Tryz.zeroValue153
 t35:=Tryz.underlying171
 a35:=Tryz.isAgg171
 z35:=Tryz.sizeOf171
 v35:=Tryz.zeroValue171
 t36:=Tryz.underlying172
 a36:=Tryz.isAgg172
 z36:=Tryz.sizeOf172
 v36:=Tryz.zeroValue172
 t41:=Tryz.underlying145
 a41:=Tryz.isAgg145
 z41:=Tryz.sizeOf145
 v41:=Tryz.zeroValue145
 t44:=Tryz.underlying179
 a44:=Tryz.isAgg179
 z44:=Tryz.sizeOf179
 v44:=Tryz.zeroValue179
 t46:=Tryz.underlying26
 a46:=Tryz.isAgg26
 z46:=Tryz.sizeOf26
 v46:=Tryz.zeroValue26
 t53:=Tryz.underlying184
 a53:=Tryz.isAgg184
 z53:=Tryz.sizeOf184
 v53:=Tryz.zeroValue184
 t57:=Tryz.underlying187
 a57:=Tryz.isAgg187
 z57:=Tryz.sizeOf187
 v57:=Tryz.zeroValue187
 t63:=Tryz.underlying191
 a63:=Tryz.isAgg191
 z63:=Tryz.sizeOf191
 v63:=Tryz.zeroValue191
 t64:=Tryz.underlying129
 a64:=Tryz.isAgg129
 z64:=Tryz.sizeOf129
 v64:=Tryz.zeroValue129
theorem sortsL (m:Nat):AnyZ.SortsIn Tryz.prog sortedL_ren Fence.wide m :=
 ⟨fun blk off cap ss W hH hblk hsz=>callsIn_wide.2 (AnyM.slices_Sort_string sortL blk off cap ss W hH hblk hsz),
 fun p cap W=>callsIn_wide.2 (AnyM.slices_Sort_string_none sortL p cap W)⟩
theorem keys14 (mb:Option Nat) (W:World):Calls Tryz.prog 45 #[.map mb] W fun e w'=>e=.returned (.func (.func 75) #[] #[.pointer (some ⟨W.heap.size,0,none⟩)])∧w'=W.alloc (.cells #[.map mb] 89):=by
 have cK:CallsIn Fence.wide 5 Tryz.prog 45 #[.map mb] W fun e w'=>e=.returned (.func (.func 75) #[] #[.pointer (some ⟨W.heap.size,0,none⟩)])∧w'=W.alloc (.cells #[.map mb] 89):=AnyZ.keys_in keysL Fence.wide 5 trivial rfl mb W
 exact callsIn_wide.1 cK
set_option maxHeartbeats 1000000 in
theorem sorted14 {b nn:Nat} {D0:DataW Unit} {w:World} (hown:w.ownsMap Tryz.prog 9 (plainElem Tryz.prog 26) b nn D0) (hmax:Maps.size D0≤maxLen) (hbytes:Maps.size D0*16≤140737488355328) :
  Calls Tryz.prog 44 #[.func (.func 75) #[] #[.pointer (some ⟨w.heap.size,0,none⟩)]] (w.alloc (.cells #[.map (some b)] 89)) fun e w'=>∃ (v:Value) (ss:List (List UInt8)),e=.returned v∧ss.Perm (strKeys D0) ∧
   w'.ownsRow (w.alloc (.cells #[.map (some b)] 89)).heap.size 9 1 v ss.length ((ss.mergeSort (fun x y=>decide (x≤y))).map encStr)∧(v=.slice none 0 0↔ss=[])∧Below (w.alloc (.cells #[.map (some b)] 89)).heap.size (w.alloc (.cells #[.map (some b)] 89)) w':=by
 have hbl:=hown.lt
 have hseq:SeqGives Fence.wide 2 Tryz.prog 75 #[.pointer (some ⟨w.heap.size,0,none⟩)] encStr (fun ss=>ss.Perm (strKeys D0)) (Maps.size D0) (w.alloc (.cells #[.map (some b)] 89)) :=
  AnyZ.keys_gives (ρ:=keysL_ren) { keysL with } Fence.wide _ trivial rfl (by omega) w.heap.size b nn D0 _ (by simp) (by simp) (by
   obtain ⟨es,clock,hb,Ft,hs,hD⟩:=hown
   exact ⟨es,clock,(Below.heap_alloc _ _ b hbl).trans hb,Ft,hs,hD⟩)
 have cS:=AnyZ.sorted_in sortedL Fence.wide 5 trivial trivial trivial trivial rfl (by omega) (sortsL _) (enters_of Tryz.func74 (by kernel_rfl) rfl) 75 #[.pointer (some ⟨w.heap.size,0,none⟩)] trivial (enters_of Tryz.func75 (by kernel_rfl) rfl) _ _ hmax hbytes _ hseq
 change CallsIn _ _ Tryz.prog 44 _ _ _ at cS
 exact callsIn_wide.1 cS
theorem names_keys {ns:List (ByteArray × Nat)} {D:DataW Unit} {w:World} {M n:Nat} (hown:w.ownsMap Tryz.prog 9 (plainElem Tryz.prog 26) M n D) (hD:SaysN D ns) (hn:(ns.map Prod.fst).Nodup):(ns.map fun q=>q.1.toList).Perm (strKeys D):=by
 obtain ⟨es,hD1,hpw,_⟩:=hown.entries lawS
 obtain ⟨es',hD',hko⟩:=hown.keysOf
 obtain rfl:es=es':=by rw [hD1] at hD';simpa using hD'
 subst hD1
 have hsome:∀ (l:List (ByteArray × Nat)) (s:ByteArray),(Yb4 l s).isSome=true↔s∈l.map Prod.fst:=by
  intro l s
  induction l with
  | nil=>simp [Yb4]
  | cons q r ih =>
   by_cases hq:q.1=s
   ·rw [show Yb4 (q::r) s=some q.2 from if_pos hq];simp [hq]
   ·rw [show Yb4 (q::r) s=Yb4 r s from if_neg hq,ih];simp only [List.map_cons,List.mem_cons];exact ⟨fun h=>.inr h,fun h=>h.resolve_left fun e=>hq e.symm⟩
 refine perm_strKeys hpw (fun p hp=>by obtain ⟨v,hv⟩:=hko p hp;obtain ⟨x,_,hx,_⟩:=Maps.keyOf_str undS hv;exact ⟨x,hx⟩) ?_ fun x=>?_
 ·have h2:(ns.map fun q=>q.1.toList)=(ns.map Prod.fst).map ByteArray.toList:=by rw [List.map_map];rfl
  rw [h2]
  exact List.pairwise_map.2 (hn.imp fun hne e=>hne (toList_inj e))
 ·have h1:=hD.has ⟨x.toArray⟩
  have h3:=hsome ns ⟨x.toArray⟩
  rw [← h1] at h3
  have hx:(⟨x.toArray⟩:ByteArray).data.toList=x:=by simp
  rw [hx] at h3
  rw [h3]
  have h2:(ns.map fun q=>q.1.toList)=(ns.map Prod.fst).map ByteArray.toList:=by rw [List.map_map];rfl
  rw [h2,List.mem_map]
  constructor
  ·rintro ⟨s,hs,e⟩
   have:s=⟨x.toArray⟩:=by
    apply toList_inj
    rw [e,ByteArray.toList_eq]
   rw [← this];exact hs
  ·intro hs
   exact ⟨_,hs,by rw [ByteArray.toList_eq]⟩
end
end Go.Proofs.YtfhiljglfhekdaaGreat
