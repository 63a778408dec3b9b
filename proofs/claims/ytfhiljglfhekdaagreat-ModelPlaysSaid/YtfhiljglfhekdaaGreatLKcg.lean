/-
  Texts of one layer, one behind the other: memory, contracts of the functions, and what follows of them.
  Conditions: as each theorem says.
-/
import Derived.Test.YtfhiljglfhekdaaGreatLKcf
import Derived.Test.YtfhiljglfhekdaaGreatLDia
import Derived.Test.YtfhiljglfhekdaaGreatLWob
import Derived.Maps.RangeWalk
import Derived.Maps.OwnSet
set_option linter.unusedVariables false
set_option linter.unusedSimpArgs false
set_option maxRecDepth 100000
namespace Go.Proofs.YtfhiljglfhekdaaGreat
open Go.RowKit
section
section
variable {w w' w1:World} {F:Nat→Prop} {P g cap n all E b k c:Nat} {f:Nat→KB} {mv bv:Value} {ns:List (ByteArray × Nat)} {lv:Nat→Bool} {l A C:List KB} {x:OpM} {v:Bool}
theorem stC_live (hk:k<8):(stC all bv mv lv).setIfInBounds (3+k) (.bool v)=stC all bv mv (oth lv k v):=by
 rcases (show k=0∨k=1∨k=2∨k=3∨k=4∨k=5∨k=6∨k=7 by omega) with rfl|rfl|rfl|rfl|rfl|rfl|rfl|rfl <;> rfl
theorem Md.relive (h:Md w F P all l ns lv) (hk:k<8) (v:Bool):MdR w (w.setCell ⟨P,3+k,none⟩ (.bool v)) F P all l ns (oth lv k v)∧w.frozen? ⟨P,3+k,none⟩=false:=by
 obtain ⟨g,cap,f,M,hst,hk2,hPg,hFg,hFM,hmp⟩:=h.ex
 have hg:=Yac w P (3+k) (.bool v)
 have hMP:some M≠some P:=fun e=>by injection e with e;exact hmp.ne hst.box e
 refine ⟨⟨⟨⟨g,cap,f,M,⟨?_,hst.row.other hst.box (by decide) hg⟩,hk2,hPg,.inl hFg,.inl hFM,hmp.kept hg hMP⟩,fun y hy=>?_,h.nod,fun q hq=>.inl (h.dF q hq),h.free,.inl h.pF,Ycp h.lt hg.size⟩,Ybm hg (fun q e=>by injection e with e;rw [← e];exact h.pF)⟩,hst.frz _⟩
 ·rw [Yar hst.box,stC_live hk]
 ·have ho:=h.own y hy
  refine World.ownsRow.kept ho hg ?_
  by_cases e1:(kv y).ownBlock=none
  ·exact .inl e1
  ·refine .inr fun e2=>?_
   obtain ⟨cur,hc⟩:=Ycn ho e2
   exact Ybu hc hst.box (by decide) rfl
set_option maxHeartbeats 2000000 in
theorem mattach_there (h:Md w F P all l ns lv) (hc:c<8) (hlv:lv c=true) :
  Calls Tryz.prog 69 #[.pointer (some ⟨P,0,none⟩),.int .i64 c,.agg (opC x)] w fun e w'=>e=.returned (.agg #[.int .i64 7,.int .u64 0,.int .u64 0])∧w.grownBy w' none:=by
 obtain ⟨hop,hres,hg0⟩:=Ybq (w:=w) x
 obtain ⟨W0,hW0⟩:∃ W0,((w.alloc (.cells (opC x) 41)).alloc (.cells #[.int .i64 0,.int .u64 0,.int .u64 0] 46))=W0:=⟨_,rfl⟩
 rw [hW0] at hop hres hg0
 have hM0:=h.later hg0
 have HNF:Hid (¬ F (w.heap.size+1)):=Lib.hid (fun hF=>by have:=h.lt _ hF;omega)
 have HNO:Hid (¬ F w.heap.size):=Lib.hid (fun hF=>by have:=h.lt _ hF;omega)
 have HLT:Hid (∀ g,F g→g<W0.heap.size):=Lib.hid (fun g hg=>Nat.lt_of_lt_of_le (h.lt g hg) hg0.size)
 have HLW:=Lib.hid h.lt
 have HRX:=Lib.hid hres
 have HOX:=Lib.hid hop
 have HG0:=Lib.hid hg0
 obtain ⟨o0,o1,o2,o3,o4,o5,o6,o7⟩:=Yal hop
 unfold opC at hW0 ⊢
 have hlc:=hM0.live hc
 rw [hlv] at hlc
 have hc8:(c:Int)<8:=by omega
 have hfl:=fun V=>Ya6 7 V
 clear hop hres hg0 hM0 h
 go_enter Tryz.func69,Tryz.ntmps69
 go_wp2_with (go_at_call 33;go_must ((with_reducible refine (hfl _).mono ?_);rintro e w3 ⟨rfl,hGG⟩;have hbx3:=(hGG.block _ (lt_of_block HRX.out) (by simp)).trans HRX.out;obtain ⟨y0,y1,y2⟩:=Yaf hbx3;obtain ⟨z0,z1,z2⟩:=Yak hbx3))
 have q:=Yaz hbx3 (x':=.int .i64 7) (y':=.int .u64 0) (z':=.int .u64 0)
 obtain ⟨k0,k1,k2⟩:=Yaf q
 refine bodyPost_ret (v:=.agg #[.int .i64 7,.int .u64 0,.int .u64 0]) (by simp [results,Tryz.results69,go_sem,k0,k1,k2]) rfl ?_
 exact ⟨rfl,Yap (Yaa (Yam (Yaa HG0.out hGG) (some (w.heap.size+1))) (Yaa (Yac _ _ _ _) (Yaa (Yac _ _ _ _) (Yac _ _ _ _)))) (by omega)⟩
set_option maxHeartbeats 2000000 in
theorem mattach_ok (h:Md w F P all l ns lv) (hc:c<8) (hlv:lv c=false) :
  Calls Tryz.prog 69 #[.pointer (some ⟨P,0,none⟩),.int .i64 c,.agg (opC x)] w fun e w'=>e=.returned (.agg #[.int .i64 0,.int .u64 0,.int .u64 0])∧MdR w w' F P all l ns (oth lv c true):=by
 obtain ⟨hop,hres,hg0⟩:=Ybq (w:=w) x
 obtain ⟨W0,hW0⟩:∃ W0,((w.alloc (.cells (opC x) 41)).alloc (.cells #[.int .i64 0,.int .u64 0,.int .u64 0] 46))=W0:=⟨_,rfl⟩
 rw [hW0] at hop hres hg0
 have hM0:=h.later hg0
 have HNF:Hid (¬ F (w.heap.size+1)):=Lib.hid (fun hF=>by have:=h.lt _ hF;omega)
 have HNO:Hid (¬ F w.heap.size):=Lib.hid (fun hF=>by have:=h.lt _ hF;omega)
 have HLT:Hid (∀ g,F g→g<W0.heap.size):=Lib.hid (fun g hg=>Nat.lt_of_lt_of_le (h.lt g hg) hg0.size)
 have HLW:=Lib.hid h.lt
 have HRX:=Lib.hid hres
 have HOX:=Lib.hid hop
 have HG0:=Lib.hid hg0
 obtain ⟨o0,o1,o2,o3,o4,o5,o6,o7⟩:=Yal hop
 unfold opC at hW0 ⊢
 have hlc:=hM0.live hc
 rw [hlv] at hlc
 have hc8:(c:Int)<8:=by omega
 obtain ⟨hR,hfz⟩:=hM0.relive hc true
 obtain ⟨W5,hW5⟩:∃ W5,W0.setCell ⟨P,3+c,none⟩ (.bool true)=W5:=⟨_,rfl⟩
 rw [hW5] at hR
 have hbx3:=Yay hR.2 HRX.out HNF.out
 obtain ⟨y0,y1,y2⟩:=Yaf hbx3
 obtain ⟨z0,z1,z2⟩:=Yak hbx3
 have HM5:=Lib.hid hR
 clear hop hres hg0 hM0 h hR
 go_enter Tryz.func69,Tryz.ntmps69
 go_wp2
 have q:=Yaz hbx3 (x':=.int .i64 0) (y':=.int .u64 0) (z':=.int .u64 0)
 obtain ⟨k0,k1,k2⟩:=Yaf q
 refine bodyPost_ret (v:=.agg #[.int .i64 0,.int .u64 0,.int .u64 0]) (by simp [results,Tryz.results69,go_sem,k0,k1,k2]) rfl ?_
 exact ⟨rfl,HM5.out.boxed HG0.out HLW.out (by omega) hbx3 (by decide) (by decide) (by decide) (Yaa (Yac _ _ _ _) (Yaa (Yac _ _ _ _) (Yac _ _ _ _)))⟩
end
end
section
open Go.Maps (Keyed)
theorem undS:Tryz.prog.underlying 9=some .string:=by kernel_rfl
theorem undU:Tryz.prog.underlying 26=some (.int .u64):=by kernel_rfl
theorem undM:Tryz.prog.underlying 89=some (.map 9 26):=by kernel_rfl
theorem lawS:Keyed Tryz.prog 9:=Maps.string_keyed undS
theorem zeroU (w:World):(zeroValue 26).run Tryz.prog w=.ok (.int .u64 0) w:=by kernel_rfl
theorem keyS {s:ByteArray} (hs:s.size≤maxLen):keyOf Tryz.prog 9 (.string s)=some (.string s.data.toList):=WideMaps.keyOf_string_mk undS hs
theorem Ydk {a b:World} (h:Below a.heap.size a b):a.grownBy b none:=⟨h.os,h.tape,h.output,h.size,fun i hi _=>h.block i hi⟩
theorem wpack14 (s:ByteArray) (hs:s.size≤maxLen) (w:World):Calls Tryz.prog 117 #[.string s] w fun e w'=>e=.returned (.tuple #[.agg #[.int .u64 (loD s:Nat),.int .u64 (hiD s:Nat)],.bool (decide (nmOk s))])∧w.grownBy w' none:=by
 unfold loD hiD
 by_cases h:nmOk s
 ·rw [if_pos h,if_pos h,decide_eq_true h]
  exact (pack_yes s h.1 h.2 w).mono fun e w' ⟨h1,h2⟩=>⟨h1,Ydk h2⟩
 ·rw [if_neg h,if_neg h,decide_eq_false h]
  exact (pack_not s (by unfold nmOk at h;omega) (by unfold maxLen at hs;omega) w).mono fun e w' ⟨h1,h2⟩=>⟨h1,Ydk h2⟩
def nmE (ns:List (ByteArray × Nat)) (s:ByteArray):Nat:=if nmOk s then (if (Yb4 ns s).isSome then 0 else 6) else 8
def nmP (ns:List (ByteArray × Nat)) (s:ByteArray):Nat:=if nmE ns s=0 then (Yb4 ns s).getD 0 else 0
section
variable {w w' w1:World} {F:Nat→Prop} {P all E c i:Nat} {ns:List (ByteArray × Nat)} {lv:Nat→Bool} {l A C:List KB} {y:KB} {x:OpM}
set_option maxHeartbeats 2000000 in
theorem Yej (h:Md w F P all l ns lv) {s:ByteArray} (hs:s.size≤maxLen) :
  Calls Tryz.prog 95 #[.pointer (some ⟨P,0,none⟩),.string s] w fun e w'=>e=.returned (.tuple #[.int .u64 (nmP ns s:Nat),.int .i64 (nmE ns s:Nat)])∧w.grownBy w' none:=by
 obtain ⟨g,cap,f,M,hst,hk,hPg,hFg,hFM,D,hown,hD⟩:=h.ex
 have hpk:=fun V=>wpack14 s hs V
 have hkey:=keyS hs
 have hh:=hD.has s
 have ha:=hD.at_ s
 obtain ⟨lo,hlo⟩:∃ lo,loD s=lo:=⟨_,rfl⟩
 obtain ⟨hi,hhi⟩:∃ hi,hiD s=hi:=⟨_,rfl⟩
 rw [hlo,hhi] at hpk
 have HST:=Lib.hid hst
 have HOWN:=Lib.hid hown
 by_cases hok:nmOk s
 ·rw [decide_eq_true hok] at hpk
  cases hg:Yb4 ns s with
  | none =>
   rw [hg] at hh ha
   have e1:nmE ns s=6:=by unfold nmE;rw [if_pos hok,hg];rfl
   have e2:nmP ns s=0:=by unfold nmP;rw [e1];rfl
   rw [e1,e2]
   have hh':Maps.has D (.string s.data.toList)=false:=hh
   clear hst hown h hg e1 e2 hh
   go_enter Tryz.func95,Tryz.ntmps95
   go_wp2_with (first
    | (at_lookup;refine wpList_lookup_own_ok_int _ rfl _ _ 89 rfl 9 26 .u64 lawS undM undU (zeroU _) M ns.length D rfl HO2 _ _ rfl hkey ?_;intro cc hc hwc;simp only [hh'])
    | (go_at_call 117;go_must ((with_reducible refine (hpk _).mono ?_);rintro e w1 ⟨rfl,hg1⟩;have g2:w.grownBy (w1.alloc (.cells #[.int .u64 lo,.int .u64 hi] 124)) none:=Yaa hg1 (World.grownBy_alloc _ _ _);have HO2:=HOWN.out.kept g2 (by simp);obtain ⟨c0,c1,c2⟩:=(HST.out.later g2).cells)))
   go_ret2
   exact ⟨rfl,g2⟩
  | some p =>
   rw [hg] at hh ha
   have e1:nmE ns s=0:=by unfold nmE;rw [if_pos hok,hg];rfl
   have e2:nmP ns s=p:=by unfold nmP;rw [e1,hg];rfl
   rw [e1,e2]
   have hh':Maps.has D (.string s.data.toList)=true:=hh
   have ha':D.atKey (.string s.data.toList) (.lit (.int .u64 0))=.lit (.int .u64 (p:Nat)):=ha
   have HA:=Lib.hid ha'
   clear hst hown h hg e1 e2 hh ha ha'
   go_enter Tryz.func95,Tryz.ntmps95
   go_wp2_with (first
    | (at_lookup;refine wpList_lookup_own_ok_int _ rfl _ _ 89 rfl 9 26 .u64 lawS undM undU (zeroU _) M ns.length D rfl HO2 _ _ rfl hkey ?_;intro cc hc hwc;simp only [hh'];obtain rfl:cc=(p:Int):=by (have:=HA.out;rw [hc] at this;injection this with this;injection this))
    | (go_at_call 117;go_must ((with_reducible refine (hpk _).mono ?_);rintro e w1 ⟨rfl,hg1⟩;have g2:w.grownBy (w1.alloc (.cells #[.int .u64 lo,.int .u64 hi] 124)) none:=Yaa hg1 (World.grownBy_alloc _ _ _);have HO2:=HOWN.out.kept g2 (by simp);obtain ⟨c0,c1,c2⟩:=(HST.out.later g2).cells)))
   go_ret2
   exact ⟨rfl,g2⟩
 ·rw [decide_eq_false hok] at hpk
  have e1:nmE ns s=8:=by unfold nmE;rw [if_neg hok]
  have e2:nmP ns s=0:=by unfold nmP;rw [e1];rfl
  rw [e1,e2]
  clear hst hown h hh ha e1 e2
  go_enter Tryz.func95,Tryz.ntmps95
  go_wp2_with (go_at_call 117;go_must ((with_reducible refine (hpk _).mono ?_);rintro e w1 ⟨rfl,hg1⟩;have g2:w.grownBy (w1.alloc (.cells #[.int .u64 lo,.int .u64 hi] 124)) none:=Yaa hg1 (World.grownBy_alloc _ _ _)))
  go_ret2
  exact ⟨rfl,g2⟩
end
end
section
open Go.Maps (Keyed)
def nmDel (ns:List (ByteArray × Nat)) (s:ByteArray):List (ByteArray × Nat):=ns.filter fun q => !decide (q.1=s)
theorem nmGet_del (s t:ByteArray):∀ ns,Yb4 (nmDel ns s) t=if t=s then none else Yb4 ns t
 | []=>by unfold nmDel;simp [Yb4]
 | q::r=>by
  have ih:=nmGet_del s t r
  unfold nmDel at ih ⊢
  rw [List.filter_cons]
  by_cases h:q.1=s
  ·rw [if_neg (by simp [h]),ih]
   by_cases h2:t=s
   ·rw [if_pos h2,if_pos h2]
   ·rw [if_neg h2,if_neg h2]
    show _=if q.1=t then _ else _
    rw [if_neg (fun e=>h2 (e.symm.trans h))]
  ·rw [if_pos (by simp [h])]
   show (if q.1=t then _ else _)=if t=s then _ else if q.1=t then _ else _
   by_cases h3:q.1=t
   ·rw [if_pos h3,if_pos h3,if_neg (fun e=>h (h3.trans e))]
   ·rw [if_neg h3,if_neg h3,ih]
theorem nmGet_app (s t:ByteArray) (p:Nat):∀ ns,Yb4 (ns++[(s,p)]) t=match Yb4 ns t with|some q=>some q|none=>if s=t then some p else none
 | []=>rfl
 | q::r=>by
  show (if q.1=t then some q.2 else Yb4 (r++[(s,p)]) t)=match (if q.1=t then some q.2 else Yb4 r t) with|some q=>some q|none=>if s=t then some p else none
  by_cases h:q.1=t
  ·rw [if_pos h,if_pos h]
  ·rw [if_neg h,if_neg h,nmGet_app s t p r]
theorem nmDel_len {s:ByteArray}:∀ {ns:List (ByteArray × Nat)},(ns.map Prod.fst).Nodup→(Yb4 ns s).isSome→(nmDel ns s).length+1=ns.length
 | [],_,h=>by cases h
 | q::r,hn,h=>by
  rw [List.map_cons,List.nodup_cons] at hn
  unfold nmDel
  rw [List.filter_cons]
  by_cases hq:q.1=s
  ·rw [if_neg (by simp [hq])]
   have:r.filter (fun q => !decide (q.1=s))=r:=List.filter_eq_self.2 fun z hz=>by
    have:z.1≠s:=fun e=>hn.1 (List.mem_map.2 ⟨z,hz,e.trans hq.symm⟩)
    simp [this]
   rw [this,List.length_cons]
  ·rw [if_pos (by simp [hq]),List.length_cons,List.length_cons]
   have h':(Yb4 r s).isSome:=by rw [show Yb4 (q::r) s=Yb4 r s from if_neg hq] at h;exact h
   have:=nmDel_len hn.2 h'
   unfold nmDel at this
   omega
theorem lit_ne {s t:ByteArray} (h:t≠s):(Lit.string t.data.toList)≠Lit.string s.data.toList:=fun e=>by
 injection e with e
 apply h
 cases s;cases t
 congr 1
 exact Array.toList_inj.1 e
theorem SaysN.del {D:DataW Unit} {ns:List (ByteArray × Nat)} {s:ByteArray} (h:SaysN D ns) (hT:Maps.Tidy D) (hn:(ns.map Prod.fst).Nodup) (hs:(Yb4 ns s).isSome):SaysN (D.del (.string s.data.toList)) (nmDel ns s):=by
 refine ⟨?_,fun t=>?_,fun t=>?_⟩
 ·have h1:=Maps.size_del (k:=Lit.string s.data.toList) hT
  rw [h.has s,hs,if_pos rfl,h.size] at h1
  have h2:=nmDel_len hn hs
  omega
 ·rw [nmGet_del]
  by_cases e:t=s
  ·subst e;rw [if_pos rfl];exact Maps.has_del_same
  ·rw [if_neg e,Maps.has_del_other (lit_ne e)];exact h.has t
 ·rw [nmGet_del]
  by_cases e:t=s
  ·subst e;rw [if_pos rfl];exact Maps.atKey_del_same _
  ·rw [if_neg e,Maps.atKey_del_other (lit_ne e)];exact h.at_ t
theorem SaysN.put {D:DataW Unit} {ns:List (ByteArray × Nat)} {s:ByteArray} {p:Nat} (h:SaysN D ns) (hT:Maps.Tidy D) (hs:Yb4 ns s=none):SaysN (D.put (.string s.data.toList) (.lit (.int .u64 (p:Nat)))) (ns++[(s,p)]):=by
 have hK:WideAt.IsKeyLit (Lit.string s.data.toList):=by first|trivial|exact .string _|simp [WideAt.IsKeyLit]
 refine ⟨?_,fun t=>?_,fun t=>?_⟩
 ·rw [Maps.size_put hT,h.has s,hs,if_neg (by decide),h.size];simp
 ·rw [nmGet_app]
  by_cases e:t=s
  ·subst e;rw [hs,Maps.has_put_same hT.isMap hK];simp
  ·rw [Maps.has_put_other (lit_ne e),h.has t,if_neg (fun k=>e k.symm)]
   cases Yb4 ns t <;> rfl
 ·rw [nmGet_app]
  by_cases e:t=s
  ·subst e;rw [hs,Maps.atKey_put_same hT.isMap hK];simp
  ·rw [Maps.atKey_put_other (lit_ne e),h.at_ t,if_neg (fun k=>e k.symm)]
   cases Yb4 ns t <;> rfl
section
variable {w w' w1 w2:World} {F:Nat→Prop} {P all E c i M p:Nat} {ns ns1 ns2:List (ByteArray × Nat)} {lv lv1:Nat→Bool} {l l1 l2 A C:List KB} {y:KB} {x:OpM}
theorem MdR.seq (h1:Ybo F w w1) (h2:MdR w1 w2 (growF F w w1) P all l2 ns2 lv) (hlt:∀ g,F g→g<w.heap.size):MdR w w2 F P all l2 ns2 lv:=by
 have hs1:=h1.size
 have hs2:=h2.2.size
 refine ⟨h2.1.mono (fun g hg=>?_) (Ycp hlt (Nat.le_trans hs1 hs2)),Ybx h1 h2.2 (fun i hi=>?_)⟩
 ·rcases hg with (h|h)|h
  ·exact .inl h
  ·exact .inr ⟨h.1,by omega⟩
  ·exact .inr ⟨by omega,h.2⟩
 ·rcases hi with h|h
  ·exact .inl h
  ·exact .inr h.1
theorem Md.renamed (h:Md w F P all l ns1 lv):∃ g cap M D,w.cell? ⟨P,2,none⟩=some (.map (some M))∧w.frozen? ⟨P,2,none⟩=false∧w.ownsMap Tryz.prog 9 (plainElem Tryz.prog 26) M ns1.length D∧SaysN D ns1∧w.cell? ⟨P,1,none⟩=some (.slice (some ⟨g,0,none⟩) l.length cap)∧F M∧∀ (w':World) (ns2:List (ByteArray × Nat)) (m:Nat) (D':DataW Unit),w'.ownsMap Tryz.prog 9 (plainElem Tryz.prog 26) M m D'→SaysN D' ns2→w.mapTurned w' M→MdR w w' F P all l ns2 lv:=by
 obtain ⟨g,cap,f,M,hst,hk,hPg,hFg,hFM,D,hown,hD⟩:=h.ex
 have hMN:MapN w M ns1:=⟨D,hown,hD⟩
 refine ⟨g,cap,M,D,hst.cells.2.2,hst.frz 2,hown,hD,hst.cells.2.1,hFM,fun w' ns2 m D' ho hD' ht=>?_⟩
 have hg:=ht.grown
 have hMP:M≠P:=hMN.ne hst.box
 obtain ⟨cur2,hc2,_⟩:=hst.row.blk
 have hMg:M≠g:=hMN.ne hc2
 have htu:Ybo (fun i=>i=M) w w':=Ybm hg (fun k e=>by injection e with e;exact e.symm)
 have hsz:=hg.size
 refine ⟨⟨⟨g,cap,f,M,⟨?_,?_⟩,hk,hPg,.inl hFg,.inl hFM,D',?_,hD'⟩,fun z hz=>?_,h.nod,fun q hq=>.inl (h.dF q hq),h.free,.inl h.pF,Ycp h.lt hsz⟩,turned_mono htu (fun i _ hi=>by subst hi;exact hFM)⟩
 ·exact Yay htu hst.box (fun e=>hMP e.symm)
 ·exact hst.row.turned htu (fun e=>hMg e.symm)
 ·have:=map_tight ho;rw [hD'.size] at this;exact this
 ·refine ownW_turned (h.own z hz) htu (fun k hk e=>?_)
  obtain ⟨cur,hcur⟩:=Ycn (h.own z hz) hk
  subst e
  exact hMN.ne hcur rfl
set_option maxHeartbeats 2000000 in
theorem mfind_any (h:Md w F P all l ns lv) (hn:x.name.size≤maxLen) :
  Calls Tryz.prog 63 #[.pointer (some ⟨P,0,none⟩),.int .i64 c,.agg (opC x)] w fun e w'=>e=.returned (.agg #[.int .i64 (nmE ns x.name:Nat),.int .u64 (nmP ns x.name:Nat),.int .u64 0])∧w.grownBy w' none:=by
 obtain ⟨hop,hres,hg0⟩:=Ybq (w:=w) x
 obtain ⟨W0,hW0⟩:∃ W0,((w.alloc (.cells (opC x) 41)).alloc (.cells #[.int .i64 0,.int .u64 0,.int .u64 0] 46))=W0:=⟨_,rfl⟩
 rw [hW0] at hop hres hg0
 have hM0:=h.later hg0
 have HNF:Hid (¬ F (w.heap.size+1)):=Lib.hid (fun hF=>by have:=h.lt _ hF;omega)
 have HNO:Hid (¬ F w.heap.size):=Lib.hid (fun hF=>by have:=h.lt _ hF;omega)
 have HLT:Hid (∀ g,F g→g<W0.heap.size):=Lib.hid (fun g hg=>Nat.lt_of_lt_of_le (h.lt g hg) hg0.size)
 have HLW:=Lib.hid h.lt
 have HRX:=Lib.hid hres
 have HOX:=Lib.hid hop
 have HG0:=Lib.hid hg0
 obtain ⟨o0,o1,o2,o3,o4,o5,o6,o7⟩:=Yal hop
 unfold opC at hW0 ⊢
 have hnd:=Yej hM0 hn
 obtain ⟨ee,hee⟩:∃ ee,nmE ns x.name=ee:=⟨_,rfl⟩
 obtain ⟨pp,hpp⟩:∃ pp,nmP ns x.name=pp:=⟨_,rfl⟩
 rw [hee,hpp] at hnd ⊢
 clear hop hres hg0 hM0 h hee hpp
 go_enter Tryz.func63,Tryz.ntmps63
 go_wp2_with (go_at_call 95;go_must ((with_reducible refine hnd.mono ?_);rintro e w3 ⟨rfl,hg3⟩;have hbx3:=(hg3.block _ (lt_of_block HRX.out) (by simp)).trans HRX.out;obtain ⟨y0,y1,y2⟩:=Yaf hbx3;obtain ⟨z0,z1,z2⟩:=Yak hbx3))
 have q:=Yaz hbx3 (x':=.int .i64 (ee:Nat)) (y':=.int .u64 (pp:Nat)) (z':=.int .u64 0)
 obtain ⟨k0,k1,k2⟩:=Yaf q
 refine bodyPost_ret (v:=.agg #[.int .i64 (ee:Nat),.int .u64 (pp:Nat),.int .u64 0]) (by simp [results,Tryz.results63,go_sem,k0,k1,k2]) rfl ?_
 exact ⟨rfl,Yap (Yaa (Yam (Yaa HG0.out hg3) (some (w.heap.size+1))) (Yaa (Yac _ _ _ _) (Yaa (Yac _ _ _ _) (Yac _ _ _ _)))) (by omega)⟩
end
end
section
open Go.Maps (Keyed)
section
variable {w w' w1 w2:World} {F:Nat→Prop} {P all E c i M p:Nat} {ns ns1 ns2:List (ByteArray × Nat)} {lv lv1:Nat→Bool} {l l1 l2 A C:List KB} {y:KB} {x:OpM}
set_option maxHeartbeats 2000000 in
theorem mdestroy_bad (h:Md w F P all l ns lv) (hn:x.name.size≤maxLen) (hne:nmE ns x.name≠0) :
  Calls Tryz.prog 64 #[.pointer (some ⟨P,0,none⟩),.int .i64 c,.agg (opC x)] w fun e w'=>e=.returned (.agg #[.int .i64 (nmE ns x.name:Nat),.int .u64 0,.int .u64 0])∧w.grownBy w' none:=by
 obtain ⟨hop,hres,hg0⟩:=Ybq (w:=w) x
 obtain ⟨W0,hW0⟩:∃ W0,((w.alloc (.cells (opC x) 41)).alloc (.cells #[.int .i64 0,.int .u64 0,.int .u64 0] 46))=W0:=⟨_,rfl⟩
 rw [hW0] at hop hres hg0
 have hM0:=h.later hg0
 have HNF:Hid (¬ F (w.heap.size+1)):=Lib.hid (fun hF=>by have:=h.lt _ hF;omega)
 have HNO:Hid (¬ F w.heap.size):=Lib.hid (fun hF=>by have:=h.lt _ hF;omega)
 have HLT:Hid (∀ g,F g→g<W0.heap.size):=Lib.hid (fun g hg=>Nat.lt_of_lt_of_le (h.lt g hg) hg0.size)
 have HLW:=Lib.hid h.lt
 have HRX:=Lib.hid hres
 have HOX:=Lib.hid hop
 have HG0:=Lib.hid hg0
 obtain ⟨o0,o1,o2,o3,o4,o5,o6,o7⟩:=Yal hop
 unfold opC at hW0 ⊢
 have hnd:=Yej hM0 hn
 obtain ⟨ee,hee⟩:∃ ee,nmE ns x.name=ee:=⟨_,rfl⟩
 obtain ⟨pp,hpp⟩:∃ pp,nmP ns x.name=pp:=⟨_,rfl⟩
 rw [hee,hpp] at hnd
 rw [hee] at hne ⊢
 have h1:¬ ((ee:Int)=0):=by omega
 have h2:((ee:Int) != 0)=true:=by simp;omega
 have hfl:=fun V=>Ya6 (ee:Int) V
 clear hop hres hg0 hM0 h hee hpp hne
 go_enter Tryz.func64,Tryz.ntmps64
 go_wp2_with (first
  | (go_at_call 95;go_must ((with_reducible refine hnd.mono ?_);rintro e w3 ⟨rfl,hg3⟩))
  | (go_at_call 33;go_must ((with_reducible refine (hfl _).mono ?_);rintro e w4 ⟨rfl,hg4⟩;have hGG:=Yaa hg3 hg4;have hbx3:=(hGG.block _ (lt_of_block HRX.out) (by simp)).trans HRX.out;obtain ⟨y0,y1,y2⟩:=Yaf hbx3;obtain ⟨z0,z1,z2⟩:=Yak hbx3)))
 have q:=Yaz hbx3 (x':=.int .i64 (ee:Nat)) (y':=.int .u64 0) (z':=.int .u64 0)
 obtain ⟨k0,k1,k2⟩:=Yaf q
 refine bodyPost_ret (v:=.agg #[.int .i64 (ee:Nat),.int .u64 0,.int .u64 0]) (by simp [results,Tryz.results64,go_sem,k0,k1,k2]) rfl ?_
 exact ⟨rfl,Yap (Yaa (Yam (Yaa HG0.out hGG) (some (w.heap.size+1))) (Yaa (Yac _ _ _ _) (Yaa (Yac _ _ _ _) (Yac _ _ _ _)))) (by omega)⟩
set_option maxHeartbeats 2000000 in
theorem mdestroy_ok (h:Md w F P all l ns lv) (hs:Sane E l) (hn:x.name.size≤maxLen) (hok:nmOk x.name) (hg:Yb4 ns x.name=some p) (hnd0:(ns.map Prod.fst).Nodup) (hi:fstN (pF p) (l.map KB.b)=some i) (hl:l=A++y::C) (hA:A.length=i) :
  Calls Tryz.prog 64 #[.pointer (some ⟨P,0,none⟩),.int .i64 c,.agg (opC x)] w fun e w'=>e=.returned (.agg #[.int .i64 0,.int .u64 0,.int .u64 0])∧MdR w w' F P all (jnL (A++y.free::C)) (nmDel ns x.name) lv:=by
 obtain ⟨hop,hres,hg0⟩:=Ybq (w:=w) x
 obtain ⟨W0,hW0⟩:∃ W0,((w.alloc (.cells (opC x) 41)).alloc (.cells #[.int .i64 0,.int .u64 0,.int .u64 0] 46))=W0:=⟨_,rfl⟩
 rw [hW0] at hop hres hg0
 have hM0:=h.later hg0
 have HNF:Hid (¬ F (w.heap.size+1)):=Lib.hid (fun hF=>by have:=h.lt _ hF;omega)
 have HNO:Hid (¬ F w.heap.size):=Lib.hid (fun hF=>by have:=h.lt _ hF;omega)
 have HLT:Hid (∀ g,F g→g<W0.heap.size):=Lib.hid (fun g hg=>Nat.lt_of_lt_of_le (h.lt g hg) hg0.size)
 have HLW:=Lib.hid h.lt
 have HRX:=Lib.hid hres
 have HOX:=Lib.hid hop
 have HG0:=Lib.hid hg0
 obtain ⟨o0,o1,o2,o3,o4,o5,o6,o7⟩:=Yal hop
 unfold opC at hW0 ⊢
 have hnd:=Yej hM0 hn
 have e1:nmE ns x.name=0:=by unfold nmE;rw [if_pos hok,hg];rfl
 have e2:nmP ns x.name=p:=by unfold nmP;rw [e1,hg];rfl
 rw [e1,e2] at hnd
 have hkey:=keyS hn
 have HM0:=Lib.hid hM0
 have HI:=Lib.hid hi
 have HL:=Lib.hid hl
 have HS:=Lib.hid hs
 have HND:=Lib.hid hnd0
 have HSM:Hid ((Yb4 ns x.name).isSome=true):=Lib.hid (by rw [hg];rfl)
 have HK:Hid (l.length≤1000∧∀ z∈l,z.b.s≤10000000):=Lib.hid ⟨by have:=hs.lay.few;omega,fun z hz=>by have:=hs.lay.mem hz;have:=hs.lay.top;omega⟩
 clear hop hres hg0 hM0 h hi hl hs hnd0 hg e1 e2 hok
 go_enter Tryz.func64,Tryz.ntmps64
 go_wp2_with (go_at_call 95;go_must ((with_reducible refine hnd.mono ?_);rintro e w3 ⟨rfl,hg3⟩;obtain ⟨g,cap,M,D,cm,fm,hown,hD,cb,hFM,hren⟩:=(HM0.out.later (Yah hg3)).renamed;have HREN:=Lib.hid hren;have HD:=Lib.hid hD;clear hren hD;have hop3:=(hg3.block _ (lt_of_block HOX.out) (by simp)).trans HOX.out;obtain ⟨_,_,_,_,_,_,_,q7⟩:=Yal hop3;have q7':w3.drew.cell? ⟨w.heap.size,7,none⟩=some (.string x.name):=q7;clear hop3))
 obtain ⟨w5,hrun,ho5,ht5⟩:=hown.drop lawS undM hkey 0
 have hR5:=HREN.out w5 _ _ _ ho5 (HD.out.del (hown.tidy lawS) HND.out HSM.out) ht5
 have HR5:=Lib.hid hR5
 clear hR5
 go_region
 all_goals
  have hpl:=fun (V:World) (hgV:w5.grownBy V none)=>place_md (HR5.out.1.later hgV) HS.out.lay p
  have hrl:=fun (V:World) (hR:MdR w3.drew V F P all l (nmDel ns x.name) lv)=>release_md (A:=A) (x:=y) (C:=C) (i:=i) (by rw [HL.out] at hR;exact hR.1) (by rw [← HL.out];exact HK.out.1) (by rw [← HL.out];exact HK.out.2) hA
  go_wp2_with (first
   | (go_at_call 96;go_must ((with_reducible refine (hpl _ (Yag _ _)).mono ?_);rintro e w6 ⟨i',ok',rfl,hf6,hg6⟩;obtain ⟨rfl,rfl⟩:ok'=true∧i'=i:=(by rw [HI.out] at hf6;cases ok' with|false=>cases hf6|true=>injection hf6 with hf6;exact ⟨rfl,hf6.symm⟩);have hR6:=HR5.out.later hg6))
   | (go_at_call 93;go_must ((with_reducible refine (hrl _ hR6).mono ?_);rintro e w7 ⟨rfl,h7⟩;have hR7:=MdR.seq hR6.2 h7 (fun g hg=>Nat.lt_of_lt_of_le (HLT.out g hg) (Yah hg3).size);have hR8:=MdR.first (Yah hg3) hR7 HLT.out;have hbx3:=Yay hR8.2 HRX.out HNF.out;obtain ⟨y0,y1,y2⟩:=Yaf hbx3;obtain ⟨z0,z1,z2⟩:=Yak hbx3)))
  have q:=Yaz hbx3 (x':=.int .i64 0) (y':=.int .u64 0) (z':=.int .u64 0)
  obtain ⟨k0,k1,k2⟩:=Yaf q
  refine bodyPost_ret (v:=.agg #[.int .i64 0,.int .u64 0,.int .u64 0]) (by simp [results,Tryz.results64,go_sem,k0,k1,k2]) rfl ?_
  exact ⟨rfl,hR8.boxed HG0.out HLW.out (by omega) hbx3 (by decide) (by decide) (by decide) (Yaa (Yac _ _ _ _) (Yaa (Yac _ _ _ _) (Yac _ _ _ _)))⟩
end
end
section
open Go.Maps (Keyed)
section
variable {w w' w1 w2:World} {F:Nat→Prop} {P all E c i M p:Nat} {ns ns1 ns2:List (ByteArray × Nat)} {lv lv1:Nat→Bool} {l l1 l2 A C:List KB} {y:KB} {x:OpM}
set_option maxHeartbeats 2000000 in
theorem mconstruct_there (h:Md w F P all l ns lv) (hn:x.name.size≤maxLen) (hne:nmE ns x.name=0) :
  Calls Tryz.prog 62 #[.pointer (some ⟨P,0,none⟩),.int .i64 c,.agg (opC x)] w fun e w'=>e=.returned (.agg #[.int .i64 7,.int .u64 0,.int .u64 0])∧w.grownBy w' none:=by
 obtain ⟨hop,hres,hg0⟩:=Ybq (w:=w) x
 obtain ⟨W0,hW0⟩:∃ W0,((w.alloc (.cells (opC x) 41)).alloc (.cells #[.int .i64 0,.int .u64 0,.int .u64 0] 46))=W0:=⟨_,rfl⟩
 rw [hW0] at hop hres hg0
 have hM0:=h.later hg0
 have HNF:Hid (¬ F (w.heap.size+1)):=Lib.hid (fun hF=>by have:=h.lt _ hF;omega)
 have HNO:Hid (¬ F w.heap.size):=Lib.hid (fun hF=>by have:=h.lt _ hF;omega)
 have HLT:Hid (∀ g,F g→g<W0.heap.size):=Lib.hid (fun g hg=>Nat.lt_of_lt_of_le (h.lt g hg) hg0.size)
 have HLW:=Lib.hid h.lt
 have HRX:=Lib.hid hres
 have HOX:=Lib.hid hop
 have HG0:=Lib.hid hg0
 obtain ⟨o0,o1,o2,o3,o4,o5,o6,o7⟩:=Yal hop
 unfold opC at hW0 ⊢
 have hnd:=Yej hM0 hn
 obtain ⟨pp,hpp⟩:∃ pp,nmP ns x.name=pp:=⟨_,rfl⟩
 rw [hne,hpp] at hnd
 have hfl:=fun V=>Ya6 7 V
 clear hop hres hg0 hM0 h hpp hne
 go_enter Tryz.func62,Tryz.ntmps62
 go_wp2_with (first
  | (go_at_call 95;go_must ((with_reducible refine hnd.mono ?_);rintro e w3 ⟨rfl,hg3⟩))
  | (go_at_call 33;go_must ((with_reducible refine (hfl _).mono ?_);rintro e w4 ⟨rfl,hg4⟩;have hGG:=Yaa hg3 hg4;have hbx3:=(hGG.block _ (lt_of_block HRX.out) (by simp)).trans HRX.out;obtain ⟨y0,y1,y2⟩:=Yaf hbx3;obtain ⟨z0,z1,z2⟩:=Yak hbx3)))
 have q:=Yaz hbx3 (x':=.int .i64 7) (y':=.int .u64 0) (z':=.int .u64 0)
 obtain ⟨k0,k1,k2⟩:=Yaf q
 refine bodyPost_ret (v:=.agg #[.int .i64 7,.int .u64 0,.int .u64 0]) (by simp [results,Tryz.results62,go_sem,k0,k1,k2]) rfl ?_
 exact ⟨rfl,Yap (Yaa (Yam (Yaa HG0.out hGG) (some (w.heap.size+1))) (Yaa (Yac _ _ _ _) (Yaa (Yac _ _ _ _) (Yac _ _ _ _)))) (by omega)⟩
set_option maxHeartbeats 2000000 in
theorem mconstruct_bad (h:Md w F P all l ns lv) (hn:x.name.size≤maxLen) (hne:nmE ns x.name=8) :
  Calls Tryz.prog 62 #[.pointer (some ⟨P,0,none⟩),.int .i64 c,.agg (opC x)] w fun e w'=>e=.returned (.agg #[.int .i64 8,.int .u64 0,.int .u64 0])∧w.grownBy w' none:=by
 obtain ⟨hop,hres,hg0⟩:=Ybq (w:=w) x
 obtain ⟨W0,hW0⟩:∃ W0,((w.alloc (.cells (opC x) 41)).alloc (.cells #[.int .i64 0,.int .u64 0,.int .u64 0] 46))=W0:=⟨_,rfl⟩
 rw [hW0] at hop hres hg0
 have hM0:=h.later hg0
 have HNF:Hid (¬ F (w.heap.size+1)):=Lib.hid (fun hF=>by have:=h.lt _ hF;omega)
 have HNO:Hid (¬ F w.heap.size):=Lib.hid (fun hF=>by have:=h.lt _ hF;omega)
 have HLT:Hid (∀ g,F g→g<W0.heap.size):=Lib.hid (fun g hg=>Nat.lt_of_lt_of_le (h.lt g hg) hg0.size)
 have HLW:=Lib.hid h.lt
 have HRX:=Lib.hid hres
 have HOX:=Lib.hid hop
 have HG0:=Lib.hid hg0
 obtain ⟨o0,o1,o2,o3,o4,o5,o6,o7⟩:=Yal hop
 unfold opC at hW0 ⊢
 have hnd:=Yej hM0 hn
 obtain ⟨pp,hpp⟩:∃ pp,nmP ns x.name=pp:=⟨_,rfl⟩
 rw [hne,hpp] at hnd
 have hfl:=fun V=>Ya6 8 V
 clear hop hres hg0 hM0 h hpp hne
 go_enter Tryz.func62,Tryz.ntmps62
 go_wp2_with (first
  | (go_at_call 95;go_must ((with_reducible refine hnd.mono ?_);rintro e w3 ⟨rfl,hg3⟩))
  | (go_at_call 33;go_must ((with_reducible refine (hfl _).mono ?_);rintro e w4 ⟨rfl,hg4⟩;have hGG:=Yaa hg3 hg4;have hbx3:=(hGG.block _ (lt_of_block HRX.out) (by simp)).trans HRX.out;obtain ⟨y0,y1,y2⟩:=Yaf hbx3;obtain ⟨z0,z1,z2⟩:=Yak hbx3)))
 have q:=Yaz hbx3 (x':=.int .i64 8) (y':=.int .u64 0) (z':=.int .u64 0)
 obtain ⟨k0,k1,k2⟩:=Yaf q
 refine bodyPost_ret (v:=.agg #[.int .i64 8,.int .u64 0,.int .u64 0]) (by simp [results,Tryz.results62,go_sem,k0,k1,k2]) rfl ?_
 exact ⟨rfl,Yap (Yaa (Yam (Yaa HG0.out hGG) (some (w.heap.size+1))) (Yaa (Yac _ _ _ _) (Yaa (Yac _ _ _ _) (Yac _ _ _ _)))) (by omega)⟩
set_option maxHeartbeats 2000000 in
theorem mconstruct_full (h:Md w F P all l ns lv) (hn:x.name.size≤maxLen) (hne:nmE ns x.name=6) (hf:16≤ns.length) :
  Calls Tryz.prog 62 #[.pointer (some ⟨P,0,none⟩),.int .i64 c,.agg (opC x)] w fun e w'=>e=.returned (.agg #[.int .i64 9,.int .u64 0,.int .u64 0])∧w.grownBy w' none:=by
 obtain ⟨hop,hres,hg0⟩:=Ybq (w:=w) x
 obtain ⟨W0,hW0⟩:∃ W0,((w.alloc (.cells (opC x) 41)).alloc (.cells #[.int .i64 0,.int .u64 0,.int .u64 0] 46))=W0:=⟨_,rfl⟩
 rw [hW0] at hop hres hg0
 have hM0:=h.later hg0
 have HNF:Hid (¬ F (w.heap.size+1)):=Lib.hid (fun hF=>by have:=h.lt _ hF;omega)
 have HNO:Hid (¬ F w.heap.size):=Lib.hid (fun hF=>by have:=h.lt _ hF;omega)
 have HLT:Hid (∀ g,F g→g<W0.heap.size):=Lib.hid (fun g hg=>Nat.lt_of_lt_of_le (h.lt g hg) hg0.size)
 have HLW:=Lib.hid h.lt
 have HRX:=Lib.hid hres
 have HOX:=Lib.hid hop
 have HG0:=Lib.hid hg0
 obtain ⟨o0,o1,o2,o3,o4,o5,o6,o7⟩:=Yal hop
 unfold opC at hW0 ⊢
 have hnd:=Yej hM0 hn
 obtain ⟨pp,hpp⟩:∃ pp,nmP ns x.name=pp:=⟨_,rfl⟩
 rw [hne,hpp] at hnd
 obtain ⟨sz,hsz⟩:∃ sz,ns.length=sz:=⟨_,rfl⟩
 have h16:(16:Int)≤(sz:Int):=by omega
 have hfl:=fun V=>Ya6 9 V
 have HM0:=Lib.hid hM0
 have HSZ:=Lib.hid hsz
 clear hop hres hg0 hM0 h hpp hne hsz hf
 go_enter Tryz.func62,Tryz.ntmps62
 go_wp2_with (first
  | (go_at_call 95;go_must ((with_reducible refine hnd.mono ?_);rintro e w3 ⟨rfl,hg3⟩;obtain ⟨g,cap,M,D,cm,fm,hown,hD,cb,hFM,hren⟩:=(HM0.out.later hg3).renamed;have hsD:Maps.size D=sz:=hD.size.trans HSZ.out;clear hren hD))
  | (at_len;refine wpList_len_own _ rfl _ 89 rfl 9 26 undM _ M ns.length D rfl hown ?_;rw [hsD])
  | (go_at_call 33;go_must ((with_reducible refine (hfl _).mono ?_);rintro e w4 ⟨rfl,hg4⟩;have hGG:=Yaa hg3 hg4;have hbx3:=(hGG.block _ (lt_of_block HRX.out) (by simp)).trans HRX.out;obtain ⟨y0,y1,y2⟩:=Yaf hbx3;obtain ⟨z0,z1,z2⟩:=Yak hbx3)))
 have q:=Yaz hbx3 (x':=.int .i64 9) (y':=.int .u64 0) (z':=.int .u64 0)
 obtain ⟨k0,k1,k2⟩:=Yaf q
 refine bodyPost_ret (v:=.agg #[.int .i64 9,.int .u64 0,.int .u64 0]) (by simp [results,Tryz.results62,go_sem,k0,k1,k2]) rfl ?_
 exact ⟨rfl,Yap (Yaa (Yam (Yaa HG0.out hGG) (some (w.heap.size+1))) (Yaa (Yac _ _ _ _) (Yaa (Yac _ _ _ _) (Yac _ _ _ _)))) (by omega)⟩
set_option maxHeartbeats 2000000 in
theorem mconstruct_not (h:Md w F P all l ns lv) (hs:Sane E l) (hn:x.name.size≤maxLen) (hne:nmE ns x.name=6) (hf:ns.length<16) (hxn:x.n<18446744073709551616) (hft:Yax (l.map KB.b) x.n 16≠0) :
  Calls Tryz.prog 62 #[.pointer (some ⟨P,0,none⟩),.int .i64 c,.agg (opC x)] w fun e w'=>e=.returned (.agg #[.int .i64 (Yax (l.map KB.b) x.n 16:Nat),.int .u64 (mtP (l.map KB.b) x.n 16:Nat),.int .u64 0])∧MdR w w' F P all l ns lv:=by
 obtain ⟨hop,hres,hg0⟩:=Ybq (w:=w) x
 obtain ⟨W0,hW0⟩:∃ W0,((w.alloc (.cells (opC x) 41)).alloc (.cells #[.int .i64 0,.int .u64 0,.int .u64 0] 46))=W0:=⟨_,rfl⟩
 rw [hW0] at hop hres hg0
 have hM0:=h.later hg0
 have HNF:Hid (¬ F (w.heap.size+1)):=Lib.hid (fun hF=>by have:=h.lt _ hF;omega)
 have HNO:Hid (¬ F w.heap.size):=Lib.hid (fun hF=>by have:=h.lt _ hF;omega)
 have HLT:Hid (∀ g,F g→g<W0.heap.size):=Lib.hid (fun g hg=>Nat.lt_of_lt_of_le (h.lt g hg) hg0.size)
 have HLW:=Lib.hid h.lt
 have HRX:=Lib.hid hres
 have HOX:=Lib.hid hop
 have HG0:=Lib.hid hg0
 obtain ⟨o0,o1,o2,o3,o4,o5,o6,o7⟩:=Yal hop
 unfold opC at hW0 ⊢
 have hnd:=Yej hM0 hn
 obtain ⟨pp,hpp⟩:∃ pp,nmP ns x.name=pp:=⟨_,rfl⟩
 rw [hne,hpp] at hnd
 obtain ⟨sz,hsz⟩:∃ sz,ns.length=sz:=⟨_,rfl⟩
 have h16:¬ (16:Int)≤(sz:Int):=by omega
 have hfl:=fun V=>Ya6 9 V
 have htk:=fun (V:World) (hgV:W0.grownBy V none)=>Yea (hM0.later hgV) hs.lay hs.fz hs.un (ow:=0) hxn (show 16<18446744073709551616 by decide)
 obtain ⟨er,her⟩:∃ er,Yax (l.map KB.b) x.n 16=er:=⟨_,rfl⟩
 obtain ⟨pq,hpq⟩:∃ pq,mtP (l.map KB.b) x.n 16=pq:=⟨_,rfl⟩
 have htR:∀ N,tkR l 0 x.n 16 N=l:=fun N=>if_neg hft
 simp only [her,hpq,htR] at htk ⊢
 replace htk:∀ (V:World),W0.grownBy V none→Calls Tryz.prog 86 #[.pointer (some ⟨P,0,none⟩),.int .i64 0,.int .u64 (x.n:Nat),.int .u64 16] V fun e w'=>e=.returned (.agg #[.int .i64 (er:Nat),.int .u64 (pq:Nat),.int .u64 0])∧∃ N:Nat,MdR V w' F P all l ns lv:=htk
 rw [her] at hft
 have h1:¬ ((er:Int)=0):=by omega
 have h2:((er:Int) == 0)=false:=by simp;omega
 have HM0:=Lib.hid hM0
 have HSZ:=Lib.hid hsz
 have HTK:=Lib.hid htk
 clear hop hres hg0 hM0 h hpp hne hsz hf her hpq htR htk hs hft
 go_enter Tryz.func62,Tryz.ntmps62
 go_wp2_with (first
  | (go_at_call 95;go_must ((with_reducible refine hnd.mono ?_);rintro e w3 ⟨rfl,hg3⟩;obtain ⟨g,cap,M,D,cm,fm,hown,hD,cb,hFM,hren⟩:=(HM0.out.later hg3).renamed;have hsD:Maps.size D=sz:=hD.size.trans HSZ.out;clear hren hD;have hop3:=(hg3.block _ (lt_of_block HOX.out) (by simp)).trans HOX.out;obtain ⟨_,q1,_,_,_,_,_,q7⟩:=Yal hop3))
  | (at_len;refine wpList_len_own _ rfl _ 89 rfl 9 26 undM _ M ns.length D rfl hown ?_;rw [hsD])
  | (go_at_call 86;go_must ((with_reducible refine (HTK.out _ hg3).mono ?_);rintro e w4 ⟨rfl,N,h4⟩;have hR6:=MdR.first hg3 h4 HLT.out;have hR7:=hR6.later (World.grownBy_alloc w4 (.cells #[.int .i64 (er:Nat),.int .u64 (pq:Nat),.int .u64 0] 46) none);have hR8:=hR7;have hbx3:=Yay hR8.2 HRX.out HNF.out;obtain ⟨y0,y1,y2⟩:=Yaf hbx3;obtain ⟨z0,z1,z2⟩:=Yak hbx3)))
 have q:=Yaz hbx3 (x':=.int .i64 (er:Nat)) (y':=.int .u64 (pq:Nat)) (z':=.int .u64 0)
 obtain ⟨k0,k1,k2⟩:=Yaf q
 refine bodyPost_ret (v:=.agg #[.int .i64 (er:Nat),.int .u64 (pq:Nat),.int .u64 0]) (by simp [results,Tryz.results62,go_sem,k0,k1,k2]) rfl ?_
 exact ⟨rfl,hR8.boxed HG0.out HLW.out (by omega) hbx3 (by decide) (by decide) (by decide) (Yaa (Yac _ _ _ _) (Yaa (Yac _ _ _ _) (Yac _ _ _ _)))⟩
set_option maxHeartbeats 2000000 in
theorem mconstruct_ok (h:Md w F P all l ns lv) (hs:Sane E l) (hn:x.name.size≤maxLen) (hne:nmE ns x.name=6) (hf:ns.length<16) (hxn:x.n<18446744073709551616) (hft:Yax (l.map KB.b) x.n 16=0) (hpl:mtP (l.map KB.b) x.n 16<18446744073709551616) :
  Calls Tryz.prog 62 #[.pointer (some ⟨P,0,none⟩),.int .i64 c,.agg (opC x)] w fun e w'=>e=.returned (.agg #[.int .i64 0,.int .u64 (mtP (l.map KB.b) x.n 16:Nat),.int .u64 0])∧∃ N,MdR w w' F P all (tkR l 0 x.n 16 N) (ns++[(x.name,mtP (l.map KB.b) x.n 16)]) lv:=by
 obtain ⟨hop,hres,hg0⟩:=Ybq (w:=w) x
 obtain ⟨W0,hW0⟩:∃ W0,((w.alloc (.cells (opC x) 41)).alloc (.cells #[.int .i64 0,.int .u64 0,.int .u64 0] 46))=W0:=⟨_,rfl⟩
 rw [hW0] at hop hres hg0
 have hM0:=h.later hg0
 have HNF:Hid (¬ F (w.heap.size+1)):=Lib.hid (fun hF=>by have:=h.lt _ hF;omega)
 have HNO:Hid (¬ F w.heap.size):=Lib.hid (fun hF=>by have:=h.lt _ hF;omega)
 have HLT:Hid (∀ g,F g→g<W0.heap.size):=Lib.hid (fun g hg=>Nat.lt_of_lt_of_le (h.lt g hg) hg0.size)
 have HLW:=Lib.hid h.lt
 have HRX:=Lib.hid hres
 have HOX:=Lib.hid hop
 have HG0:=Lib.hid hg0
 obtain ⟨o0,o1,o2,o3,o4,o5,o6,o7⟩:=Yal hop
 unfold opC at hW0 ⊢
 have hnd:=Yej hM0 hn
 obtain ⟨pp,hpp⟩:∃ pp,nmP ns x.name=pp:=⟨_,rfl⟩
 have hkey:=keyS hn
 have hgn:Yb4 ns x.name=none:=by
  unfold nmE at hne
  split at hne
  ·split at hne
   ·cases hne
   ·rename_i h1;simpa using h1
  ·cases hne
 rw [hne,hpp] at hnd
 obtain ⟨sz,hsz⟩:∃ sz,ns.length=sz:=⟨_,rfl⟩
 have h16:¬ (16:Int)≤(sz:Int):=by omega
 have hszm:sz<maxLen:=by unfold maxLen;omega
 have hfl:=fun V=>Ya6 9 V
 have htk:=fun (V:World) (hgV:W0.grownBy V none)=>Yea (hM0.later hgV) hs.lay hs.fz hs.un (ow:=0) hxn (show 16<18446744073709551616 by decide)
 obtain ⟨pq,hpq⟩:∃ pq,mtP (l.map KB.b) x.n 16=pq:=⟨_,rfl⟩
 simp only [hft,hpq] at htk
 replace htk:∀ (V:World),W0.grownBy V none→Calls Tryz.prog 86 #[.pointer (some ⟨P,0,none⟩),.int .i64 0,.int .u64 (x.n:Nat),.int .u64 16] V fun e w'=>e=.returned (.agg #[.int .i64 0,.int .u64 (pq:Nat),.int .u64 0])∧∃ N,MdR V w' F P all (tkR l 0 x.n 16 N) ns lv:=htk
 rw [hpq] at hpl ⊢
 have hval:=plainElem_int (H:=Unit) undU (a:=(pq:Int)) (q:=.u64) (WalkArith.wf_u64 (by omega))
 have HM0:=Lib.hid hM0
 have HSZ:=Lib.hid hsz
 have HTK:=Lib.hid htk
 have HGN:=Lib.hid hgn
 clear hop hres hg0 hM0 h hpp hne hsz hf hpq htk hs hft hgn
 go_enter Tryz.func62,Tryz.ntmps62
 go_wp2_with (first
  | (go_at_call 95;go_must ((with_reducible refine hnd.mono ?_);rintro e w3 ⟨rfl,hg3⟩;obtain ⟨g,cap,M,D,cm,fm,hown,hD,cb,hFM,hren⟩:=(HM0.out.later hg3).renamed;have hsD:Maps.size D=sz:=hD.size.trans HSZ.out;clear hren hD;have hop3:=(hg3.block _ (lt_of_block HOX.out) (by simp)).trans HOX.out;obtain ⟨_,q1,_,_,_,_,_,q7⟩:=Yal hop3))
  | (at_len;refine wpList_len_own _ rfl _ 89 rfl 9 26 undM _ M ns.length D rfl hown ?_;rw [hsD])
  | (go_at_call 86;go_must ((with_reducible refine (HTK.out _ hg3).mono ?_);rintro e w4 ⟨rfl,N,h4⟩;clear hown cm fm cb hsD;have hR6:=MdR.first hg3 h4 HLT.out;have hres4:=Yab w4 (.cells #[.int .i64 0,.int .u64 (pq:Nat),.int .u64 0] 46);have hga:=World.grownBy_alloc w4 (.cells #[.int .i64 0,.int .u64 (pq:Nat),.int .u64 0] 46) none;have hop4:=(hga.block _ (lt_of_block (Yay hR6.2 HOX.out HNO.out)) (by simp)).trans (Yay hR6.2 HOX.out HNO.out);obtain ⟨_,_,_,_,_,_,_,q7⟩:=Yal hop4;obtain ⟨u0,u1,u2⟩:=Yaf hres4)))
 obtain ⟨W5,hW5⟩:∃ W5,w4.alloc (.cells #[.int .i64 0,.int .u64 (pq:Nat),.int .u64 0] 46)=W5:=⟨_,rfl⟩
 rw [hW5] at hga hres4 hop4 q7 u0 u1 u2 ⊢
 have hR7:=hR6.later (Yah hga)
 have HR7:=Lib.hid hR7
 obtain ⟨g,cap,M,D,cm,fm,hown,hD,cb,hFM,hren⟩:=hR7.1.renamed
 obtain ⟨w6,hrun,ho6,ht6⟩:=hown.store lawS undM (by rw [HSZ.out];exact hszm) hkey hval
 have hR8:=MdR.seq hR7.2 (hren w6 _ _ _ ho6 (hD.put (hown.tidy lawS) HGN.out) ht6) HLT.out
 have hMne:M≠w4.heap.size:=by
  obtain ⟨es,clock,hb,_⟩:=hown
  intro e
  rw [e] at hb
  have hb':W5.heap[w4.heap.size]?=some (.map es clock):=hb
  rw [hres4] at hb'
  cases hb'
 have hres6:w6.heap[w4.heap.size]?=some (.cells #[.int .i64 0,.int .u64 (pq:Nat),.int .u64 0] 46 (0,0)):=(ht6.grown.block _ (lt_of_block (show W5.drew.heap[w4.heap.size]?=_ from hres4)) (fun e=>hMne (by injection e with e;exact e.symm))).trans hres4
 obtain ⟨v0,v1,v2⟩:=Yaf hres6
 have hbx3:=Yay hR8.2 HRX.out HNF.out
 obtain ⟨y0,y1,y2⟩:=Yaf hbx3
 obtain ⟨z0,z1,z2⟩:=Yak hbx3
 have HR8:=Lib.hid hR8
 clear hR6 hR7 hren hR8 hop4 hres4 hres6
 go_region
 all_goals
  go_wp2
  have hR8:=HR8.out
  have q:=Yaz hbx3 (x':=.int .i64 0) (y':=.int .u64 (pq:Nat)) (z':=.int .u64 0)
  obtain ⟨k0,k1,k2⟩:=Yaf q
  refine bodyPost_ret (v:=.agg #[.int .i64 0,.int .u64 (pq:Nat),.int .u64 0]) (by simp [results,Tryz.results62,go_sem,k0,k1,k2]) rfl ?_
  exact ⟨rfl,N,hR8.boxed HG0.out HLW.out (by omega) hbx3 (by decide) (by decide) (by decide) (Yaa (Yac _ _ _ _) (Yaa (Yac _ _ _ _) (Yac _ _ _ _)))⟩
end
end
section
section
variable {w w' w1 w2:World} {F:Nat→Prop} {P g cap n all E c i M p:Nat} {f:Nat→KB} {mv:Value} {ns:List (ByteArray × Nat)} {lv:Nat→Bool} {l A C:List KB} {y:KB} {x:OpM}
theorem Ybk.ends {E:Nat}:∀ {o:Nat} {bs:List Blk},Ybk E o bs→∃ S:Nat→Nat,S 0=o∧(∀ k,k<bs.length→S (k+1)=S k+(bs.getD k default).s)∧S bs.length=E∧∀ k,k≤bs.length→S k≤E
 | o,[],h=>⟨fun _=>o,rfl,fun k hk=>absurd hk (Nat.not_lt_zero _),h,fun k hk=>Nat.le_of_eq h⟩
 | o,b::r,h=>by
  have hle:=Ybk.le h
  obtain ⟨h1,h2,h3,h4⟩:=h
  obtain ⟨S,e1,e2,e3,e4⟩:=h4.ends
  refine ⟨fun k=>match k with|0=>o|k+1=>S k,rfl,fun k hk=>?_,e3,fun k hk=>?_⟩
  ·cases k with
   | zero=>exact e1
   | succ k=>exact e2 k (by simp at hk;omega)
  ·cases k with
   | zero=>show o≤E;omega
   | succ k=>exact e4 k (by simp at hk;omega)
set_option maxHeartbeats 2000000 in
theorem size_any (h:StB w P g cap n all f mv lv) (hn:n≤1000) {S:Nat→Nat} (h0:S 0=3776) (hS:∀ k,k<n→S (k+1)=S k+(f k).b.s) (hb:∀ k,k≤n→S k<1000000) :
  Calls Tryz.prog 22 #[.pointer (some ⟨P,0,none⟩)] w fun e w'=>e=.returned (.int .u64 (S n:Nat))∧w.grownBy w' none:=by
 obtain ⟨e0,e1,e2⟩:=h.cells
 have HH:=Lib.hid h
 have HS:=Lib.hid hS
 have HB:=Lib.hid hb
 have H0:Hid ((3776:Nat)=S 0):=Lib.hid h0.symm
 clear h hS hb h0
 go_enter Tryz.func22,Tryz.ntmps22
 go_wp2
 go_loopw [3,13] (fun ve vk wr=>∃ k:Nat,k≤n∧vk=.int .i64 k∧(∃ v:Nat,ve=.int .u64 v∧v=S k)∧w.grownBy wr none) (fun _ vk _=>n - (intOf vk).toNat)
 case atStart=>exact ⟨0,Nat.zero_le _,rfl,⟨3776,rfl,H0.out⟩,Yag _ _⟩
 case round =>
  obtain ⟨k,hk,rfl,⟨v,rfl,HV⟩,hg⟩:=hrel
  by_cases h1:k<n
  ·have h1':(k:Int)<(n:Int):=by omega
   obtain ⟨c0,c1,c2,c3,c4,c5⟩:=(HH.out.later hg).row.cells h1
   have hsk:=HS.out k h1
   have hbk:=HB.out (k+1) h1
   obtain ⟨x,hx⟩:∃ x,f k=x:=⟨_,rfl⟩
   rw [hx] at c0 c1 c2 c3 c4 c5 hsk
   obtain ⟨⟨x0,x1,x2,x3,x4⟩,xa,xm,xc,xd⟩:=x
   simp only at c0 c1 c2 c3 c4 c5 hsk
   have hb:=Yab wr (.cells #[.int .u64 (x0:Nat),.int .u64 (x1:Nat),.bool x2,.int .i64 x3,.int .u64 (x4:Nat),.slice xa xm xc] 53)
   have ga:=World.grownBy_alloc wr (.cells #[.int .u64 (x0:Nat),.int .u64 (x1:Nat),.bool x2,.int .i64 x3,.int .u64 (x4:Nat),.slice xa xm xc] 53) none
   obtain ⟨W1,hW1⟩:∃ W1,wr.alloc (.cells #[.int .u64 (x0:Nat),.int .u64 (x1:Nat),.bool x2,.int .i64 x3,.int .u64 (x4:Nat),.slice xa xm xc] 53)=W1:=⟨_,rfl⟩
   rw [hW1] at hb ga
   have HG1:=Lib.hid (Yaa hg ga)
   obtain ⟨y0,y1,y2,y3,y4,y5⟩:=Ya5 hb
   have e1:IntKind.u64.wrap ((v:Int)+(x1:Int))=((v+x1:Nat):Int):=by rw [IntKind.wrap_u64];omega
   have HVV:Hid (v+x1=S (k+1)):=Lib.hid (by omega)
   clear hb ga hsk hbk HV hx
   go_wp2
   go_roundw
   case rel=>exact ⟨k+1,by omega,by go_num,⟨v+x1,by first|rfl|rw [e1]|go_num,HVV.out⟩,HG1.out⟩
   case measure=>simp [intOf];omega
  ·obtain rfl:k=n:=by omega
   go_wp2
   go_ret
   subst HV
   exact ⟨rfl,hg⟩
theorem size_md (h:Md w F P all l ns lv) (hL:Lay E l) :
  Calls Tryz.prog 22 #[.pointer (some ⟨P,0,none⟩)] w fun e w'=>e=.returned (.int .u64 (E:Nat))∧w.grownBy w' none:=by
 obtain ⟨g,cap,f,M,hst,hk,hPg,hFg,hFM,hmp⟩:=h.ex
 obtain ⟨S,s1,s2,s3,s4⟩:=hL.ch.ends
 rw [List.length_map] at s2 s3 s4
 have ht:=hL.top
 rw [← s3]
 refine size_any hst (by have:=hL.few;omega) s1 (fun k hk2=>?_) (fun k hk2=>by have:=s4 k hk2;omega)
 rw [s2 k hk2]
 congr 1
 have:(l.map KB.b).getD k default=(f k).b:=by
  rw [← hk,← show bsF f l.length=(Ycb f l.length).map KB.b from (klist_b ..).symm]
  exact bsF_at hk2
 rw [this]
end
end
end Go.Proofs.YtfhiljglfhekdaaGreat
