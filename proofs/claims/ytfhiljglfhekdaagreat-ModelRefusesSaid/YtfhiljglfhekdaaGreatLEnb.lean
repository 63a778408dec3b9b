/-
  Texts of one layer, one behind the other: memory, contracts of the functions, and what follows of them.
  Conditions: as each theorem says.
-/
import Derived.Test.YtfhiljglfhekdaaGreatLEna
import Derived.Test.YtfhiljglfhekdaaGreatLKfc
import Derived.Test.YtfhiljglfhekdaaGreatLHsc
import Derived.Test.YtfhiljglfhekdaaGreatLZza
set_option linter.unusedVariables false
set_option linter.unusedSimpArgs false
set_option maxRecDepth 100000
namespace Go.Proofs.YtfhiljglfhekdaaGreat
open Go.RowKit
section
theorem info_ment:(Tryz.prog.info? 85).map (fun i=>(i.zero,i.size,i.bytes))=some (some (.agg #[.string ByteArray.empty,.int .u64 0]),2,24):=by kernel_rfl
theorem wpList_append_ments {w2:World} {base n m c:Nat} {v:Value} {l k:List (ByteArray × Nat)} {la:Option Addr} (hown:OwnN w2 base 85 v l) (hp:Ycc w2 la k) (hn:l.length=n) (hk:k.length=m) (hm:n+m≤1000000) (hbase:base≤w2.heap.size)
  {ops:Array Oper} {rest:List Oper} {o:Oper} {a:Act} {Q:Exit→Act→World→Prop} (hgd:o.guard=none) (s x:Operand)
  (ho:o.op=.call { callee:=.builtin .append,args:=#[s,x],argTypes:=#[61,61] })
  (hs:a.eval s=v) (hx:a.eval x=.slice la m c)
  (h:∀ v' w',OwnN w' base 85 v' (l++k)→w2.grownBy w' v.ownBlock→wpList Tryz.prog ops Q rest (a.put o.dst v') w') :
  wpList Tryz.prog ops Q (o::rest) a w2:=by
 subst hn hk
 obtain ⟨i0,hi,hz0,hz1,hz2⟩:=info_parts info_ment
 rcases la with _|ad
 ·have hm0:k=[]:=by
   cases k with
   | nil=>rfl
   | cons b r =>
    obtain ⟨_,_,hb,_⟩:=hp.cells (by simp)
    cases hb
  subst hm0
  refine wpList_plain hgd fun K hK=>?_
  have hrun:=Ydv (P:=Tryz.prog) (w:=w2) base 61 o.type 85 i0 2 c Tryz.underlying61 hi v l.length (Ych l) hown
  unfold Oper.wp
  simp only [List.length_nil] at hx
  simp [execOp,ho,resolve,invoke,builtin,hs,hx,hrun,Result.andThen]
  exact hK _ _ (h v w2 (by simpa using hown) (Yag _ _))
 ·refine wpList_append_own_at _ hgd s x 61 ho base 85 i0 (.agg #[.string ByteArray.empty,.int .u64 0]) 2 24 Tryz.underlying61 hi hz0 hz1 hz2 rfl (by decide) v l.length (Ych l) hs hown ad k.length c (Ych k) hx (Yef k) ?_ (cellsNm_one k) (by unfold maxLen;omega) (by omega) hbase fun v' w' h1 h2 _ _=>h v' w' (by unfold OwnN;rw [cellsNm_appE,List.length_append];exact h1) h2
  intro j u hj
  have hjm:j<k.length*2:=by
   rcases Nat.lt_or_ge j (k.length*2) with h'|h'
   ·exact h'
   ·rw [List.getElem?_eq_none (by rw [Yef];exact h')] at hj;cases hj
  obtain ⟨b,off,hb,_,hcs⟩:=hp.cells (by omega)
  injection hb with hb
  subst hb
  have hadd:(⟨b,off,none⟩:Addr).add j=⟨b,off+j,none⟩:=by unfold Addr.add;split <;> simp_all
  rw [hadd]
  obtain ⟨c0,c1⟩:=hcs (j / 2) (by omega)
  obtain ⟨a0,a1⟩:=cellsNm_at k (j / 2) (by omega)
  rcases (show j % 2=0∨j % 2=1 by omega) with e|e
  ·rw [show j / 2*2=j by omega] at a0
   rw [show off+j / 2*2=off+j by omega] at c0
   rw [c0,← hj,a0]
  ·rw [show j / 2*2+1=j by omega] at a1
   rw [show off+j / 2*2+1=off+j by omega] at c1
   rw [c1,← hj,a1]
theorem ments_lit (W:World) (s:ByteArray) (p:Nat):Ycc (W.alloc (.cells #[.string s,.int .u64 (p:Nat)] 85)) (some ⟨W.heap.size,0,none⟩) [(s,p)]:=by
 have hb:=Yab W (.cells #[.string s,.int .u64 (p:Nat)] 85)
 refine ⟨fun _=>⟨W.heap.size,0,rfl,lt_of_block hb,fun k hk=>?_⟩⟩
 have hk0:k=0:=by simp at hk;exact hk
 subst hk0
 exact ⟨Yas hb rfl,Yas hb rfl⟩
theorem row_strs {w:World} {base n:Nat} {v:Value} {SL:List (ByteArray × Nat)} (h:w.ownsRow base 9 1 v n ((SL.map fun q=>q.1.toList).map Go.Proofs.encStr)) (hn:SL.length=n) :
  ∃ a c,v=.slice a n c∧∀ w',w.grownBy w' none→∀ k,k<n→∃ g,a=some ⟨g,0,none⟩∧w'.cell? ⟨g,k,none⟩=some (.string (entS SL k)):=by
 rcases h.2 with ⟨h1,h2⟩|⟨g,cap,cur,hv,hb,hgg,h3,h4,h5,h6⟩
 ·exact ⟨none,0,by rw [h1,h2],fun w' hg k hk=>by omega⟩
 ·refine ⟨_,cap,hv,fun w' hg k hk=>⟨g,rfl,?_⟩⟩
  have hb':=(hg.block _ (lt_of_block hgg) (by simp)).trans hgg
  refine Yas hb' ?_
  have e1:cur.toList[k]?=((SL.map fun q=>q.1.toList).map Go.Proofs.encStr)[k]?:=by
   rw [← h6,List.getElem?_take_of_lt (by omega)]
  rw [Array.getElem?_toList] at e1
  rw [e1]
  have hk':k<SL.length:=by omega
  simp only [List.getElem?_map,List.getElem?_eq_getElem hk',Option.map_some]
  unfold entS
  rw [List.getD_eq_getElem?_getD,List.getElem?_eq_getElem hk']
  simp only [Option.getD_some,Go.Proofs.encStr,Option.some.injEq,Value.string.injEq]
  rw [ByteArray.toList_eq]
section
variable {w w':World} {F:Nat→Prop} {P all:Nat} {ns:List (ByteArray × Nat)} {lv:Nat→Bool} {l:List KB}
set_option maxHeartbeats 4000000 in
theorem entries_any (h:Md w F P all l ns lv) (hn:ns.length≤1000) (hnd:(ns.map Prod.fst).Nodup) (hsz:∀ q∈ns,q.1.size≤maxLen) :
  Calls Tryz.prog 20 #[.pointer (some ⟨P,0,none⟩)] w fun e w'=>∃ v',e=.returned v'∧OwnN w' w.heap.size 85 v' (srtE [] ns)∧w.grownBy w' none:=by
 obtain ⟨g0,cap,f,M,hst,hk,hPg,hFg,hFM,D,hown,hD⟩:=h.ex
 obtain ⟨c0,c1,c2⟩:=hst.cells
 have hks:=names_keys hown hD hnd
 have hsrt:=sorted14 hown (by rw [hD.size];unfold maxLen;omega) (by rw [hD.size];omega)
 obtain ⟨SL,hSL⟩:∃ SL,srtE [] ns=SL:=⟨_,rfl⟩
 have hln:SL.length=ns.length:=by rw [← hSL,srtE_len]
 have hpm:SL.Perm ns:=by have:=srtE_perm ns [];rw [List.nil_append,hSL] at this;exact this
 have hget:∀ k,k<SL.length→Yb4 ns (entS SL k)=some (entO SL k):=fun k hk=>by
  have hm:SL.getD k (ByteArray.empty,0)∈ns:=by
   rw [List.getD_eq_getElem?_getD,List.getElem?_eq_getElem hk]
   exact hpm.mem_iff.1 (List.getElem_mem hk)
  obtain ⟨A,C,e⟩:=List.append_of_mem hm
  have hnd':=hnd
  rw [e] at hnd' ⊢
  exact get_at hnd'
 have hszS:∀ k,k<SL.length→(entS SL k).size≤maxLen:=fun k hk=>by
  refine hsz (SL.getD k (ByteArray.empty,0)) ?_
  rw [List.getD_eq_getElem?_getD,List.getElem?_eq_getElem hk]
  exact hpm.mem_iff.1 (List.getElem_mem hk)
 have hrows:∀ (b:Nat) (w2:World) (v:Value) (ss:List (List UInt8)),ss.Perm (Go.strKeys D)→w2.ownsRow b 9 1 v ss.length ((ss.mergeSort (fun x y=>decide (x≤y))).map Go.Proofs.encStr)→∃ a c,v=.slice a SL.length c∧∀ w',w2.grownBy w' none→∀ k,k<SL.length→∃ g,a=some ⟨g,0,none⟩∧w'.cell? ⟨g,k,none⟩=some (.string (entS SL k)):=fun b w2 v ss hp hr=>by
  have hp2:=hp.trans hks.symm
  have hl2:ss.length=SL.length:=by rw [hp2.length_eq,List.length_map,hln]
  rw [keys_asc hnd hp2,hSL,hl2] at hr
  exact row_strs hr rfl
 obtain ⟨n,hN⟩:∃ n,ns.length=n:=⟨_,rfl⟩
 rw [hN] at hown hn hln
 rw [hln] at hget hszS hrows
 rw [hSL]
 have hat:=fun s=>hD.at_ s
 have gk:=World.grownBy_alloc w (.cells #[.map (some M)] 89) none
 have HROWS:=Lib.hid hrows
 have HGET:=Lib.hid hget
 have HSZ:=Lib.hid hszS
 have HAT:=Lib.hid hat
 have HOWN:=Lib.hid hown
 have HST:=Lib.hid hst
 have HLN:=Lib.hid hln
 have HGK:=Lib.hid gk
 clear h hst hk hPg hFg hFM hown hD hks hSL hpm hget hszS hrows hat hN hnd hsz gk hln
 go_enter Tryz.func20,Tryz.ntmps20
 go_wp2_with (first
  | (go_at_call 45;go_must ((with_reducible refine (keys14 _ _).mono ?_);rintro e w1 ⟨rfl,rfl⟩))
  | (go_at_call 44;go_must ((with_reducible refine hsrt.mono ?_);rintro e w2 ⟨v2,ss,rfl,hperm,hrow,-,hb⟩;obtain ⟨a2,c2',rfl,hr2⟩:=HROWS.out _ _ _ _ hperm hrow;have hg2:=Yaa HGK.out (Ydk hb);have HR2:=Lib.hid hr2;clear hperm hrow hb hr2)))
 go_loopw [3,15] (fun v i wr=>∃ k:Nat,k≤n∧i=.int .i64 k∧OwnN wr w2.heap.size 85 v (SL.take k)∧w2.grownBy wr none) (fun _ i _=>n - (intOf i).toNat)
 case atStart=>exact ⟨0,Nat.zero_le _,rfl,World.ownsRow_nil _ _ _ _,Yag _ _⟩
 case round =>
  obtain ⟨k,hk,rfl,ho,hgr⟩:=hrel
  by_cases h1:k<n
  ·have h1':(k:Int)<(n:Int):=by omega
   have G:=Yaa hg2 hgr
   obtain ⟨g,ea,r0⟩:=HR2.out _ hgr k h1
   subst ea
   obtain ⟨s,es⟩:∃ s,entS SL k=s:=⟨_,rfl⟩
   obtain ⟨p,ep⟩:∃ p,entO SL k=p:=⟨_,rfl⟩
   have hgt:=HGET.out k h1
   have hss:=HSZ.out k h1
   rw [es] at r0 hgt hss
   rw [ep] at hgt
   have ha:=HAT.out s
   rw [hgt] at ha
   have ha':D.atKey (.string s.data.toList) (.lit (.int .u64 0))=.lit (.int .u64 (p:Nat)):=ha
   have HA:=Lib.hid ha'
   have hkey:=keyS hss
   have HO2:=HOWN.out.kept G (by simp)
   obtain ⟨c0,c1,c2⟩:=(HST.out.later G).cells
   have hkl:k<SL.length:=by rw [HLN.out];exact h1
   have htk:SL.take (k+1)=SL.take k++[(s,p)]:=by
    rw [List.take_succ_eq_append_getElem hkl,← es,← ep]
    unfold entS entO
    rw [List.getD_eq_getElem?_getD,List.getElem?_eq_getElem hkl];rfl
   have hlk:(SL.take k).length=k:=by rw [List.length_take,HLN.out];omega
   obtain ⟨a3,c3,e3⟩:=ho.form
   rw [hlk] at e3
   subst e3
   have hlit:=ments_lit wr s p
   have hgl:=World.grownBy_alloc wr (.cells #[.string s,.int .u64 (p:Nat)] 85) none
   have hol:=ho.later hgl
   have HTK:=Lib.hid htk
   have HLK:=Lib.hid hlk
   have HK1:Hid (k+1≤1000000):=Lib.hid (by omega)
   have HSZ2:Hid (w2.heap.size≤(wr.alloc (.cells #[.string s,.int .u64 (p:Nat)] 85)).heap.size):=Lib.hid (Yaa hgr hgl).size
   clear es ep hgt ha ha' htk hlk hkl hss
   go_wp2_with (first
    | (at_lookup;refine wpList_lookup_own_int _ rfl _ _ 89 rfl 9 26 .u64 lawS undM undU (zeroU _) M n D rfl HO2 _ _ rfl hkey ?_;intro cc hc hwc;obtain rfl:cc=(p:Int):=by (have:=HA.out;rw [hc] at this;injection this with this;injection this))
    | (at_builtin;go_must (refine wpList_append_ments hol hlit HLK.out rfl HK1.out HSZ2.out rfl _ _ rfl rfl rfl ?_);intro v7 w7 hv7 hg7))
   go_roundw
   case rel=>exact ⟨k+1,by omega,by go_num,by rw [HTK.out];exact hv7,Yaj (Yaa hgr hgl) hg7 (fun i hi=>.inl (ho.new hi))⟩
   case measure=>simp [intOf];omega
  ·obtain rfl:k=n:=by omega
   have h1':¬ (k:Int)<(k:Int):=by omega
   have hfin:SL.take k=SL:=by rw [← HLN.out,List.take_length]
   rw [hfin] at ho
   have HO:=Lib.hid ho
   clear ho hfin
   go_wp2
   go_ret
   exact ⟨_,rfl,HO.out.mono hg2.size,Yaa hg2 hgr⟩
end
end
section
section
variable {w0 w w' W:World} {P base K:Nat} {v:Value} {S:MS}
theorem Both.entries {F:Nat→Prop} {all:Nat} (h:Both W F P base v all K S) :
  Calls Tryz.prog 20 #[.pointer (some ⟨P,0,none⟩)] W fun e w'=>∃ v',e=.returned v'∧OwnN w' W.heap.size 85 v' (srtE [] S.nm)∧W.grownBy w' none:=by
 obtain ⟨l,hs,hr⟩:=h.ex
 have hM:=h.hm
 exact entries_any hs.md (by have:=hM.nn;omega) hM.nk fun q hq=>by have:=(hM.no q hq).2;unfold maxLen;omega
theorem Both.rentries {F:Nat→Prop} {all:Nat} (h:Both W F P base v all K S) :
  Calls Tryz.prog 28 #[v] W fun e w'=>∃ v',e=.returned v'∧OwnN w' W.heap.size 86 v' (srtE [] S.nm)∧W.grownBy w' none:=by
 obtain ⟨l,hs,hr⟩:=h.ex
 have hM:=h.hm
 exact rentries14 hs.st (by have:=hM.nn;omega) h.bw
theorem Both.size {F:Nat→Prop} {all:Nat} (h:Both W F P base v all K S) :
  Calls Tryz.prog 22 #[.pointer (some ⟨P,0,none⟩)] W fun e w'=>e=.returned (.int .u64 (S.E:Nat))∧W.grownBy w' none:=by
 obtain ⟨l,hs,hr⟩:=h.ex
 exact size_md hs.md (hr.sane h.hm.hs).lay
theorem Both.live {F:Nat→Prop} {all:Nat} (h:Both W F P base v all K S) :
  Calls Tryz.prog 21 #[.pointer (some ⟨P,0,none⟩)] W fun e w'=>∃ v',e=.returned v'∧OwnI w' W.heap.size v' (liveL S.lv)∧W.grownBy w' none:=by
 obtain ⟨l,hs,hr⟩:=h.ex
 exact mlive_any hs.md
theorem Both.rlive {F:Nat→Prop} {all:Nat} (h:Both W F P base v all K S) :
  Calls Tryz.prog 30 #[v] W fun e w'=>∃ v',e=.returned v'∧OwnI w' W.heap.size v' (liveL S.lv)∧W.grownBy w' none:=by
 obtain ⟨l,hs,hr⟩:=h.ex
 exact rlive14 hs.st h.bw
theorem live_few (lv:Nat→Bool):(liveL lv).length≤1000000:=Nat.le_trans (List.length_filter_le _ _) (by simp)
theorem Both.cells {F:Nat→Prop} {all:Nat} (h:Both W F P base v all K S):∃ cs:Array Value,v=.agg cs∧cs.size=21∧cs.all (·.oneCell')=true∧cs[1]?=some (.int .u64 (S.E:Nat)):=by
 obtain ⟨l,hs,hr⟩:=h.ex
 obtain ⟨la,n,c,va,ln,vc,da,dn,dc,na,nn,nc,lD,h1,h2,h3,h4,h5,h6,h7⟩:=hs.st
 exact ⟨_,h1,rfl,sC_one,rfl⟩
set_option maxHeartbeats 8000000 in
theorem same14 (h:Pl w0 P base v K S w) (hK:K≤1000000):Calls Tryz.prog 12 #[.pointer (some ⟨P,0,none⟩),v] w fun e w'=>e=.returned (.bool true)∧w.grownBy w' none:=by
 obtain ⟨F,hB,hF⟩:=h.ex
 have hM:=h.hm
 have hlo:=h.lo
 obtain ⟨cs,hv,hs0,hs1,hs11⟩:=hB.cells
 subst hv
 have hbl:=fun V (hg:w.grownBy V none)=>(hB.later hg).blocks hlo
 have hbl2:=fun V (hg:w.grownBy V none)=>(hB.later hg).rblocks hK
 have hen:=fun V (hg:w.grownBy V none)=>(hB.later hg).entries
 have hen2:=fun V (hg:w.grownBy V none)=>(hB.later hg).rentries
 have hsi:=fun V (hg:w.grownBy V none)=>(hB.later hg).size
 have hl1:=fun V (hg:w.grownBy V none)=>(hB.later hg).live
 have hl2:=fun V (hg:w.grownBy V none)=>(hB.later hg).rlive
 have hwl:∀ k,k<S.bs.length→(wdL S k).length≤1000000:=fun k hk=>Nat.le_trans (wdL_len hM hk) (by decide)
 have hfew:=hM.hs.few
 have hnl:(srtE [] S.nm).length≤16:=by rw [srtE_len];exact hM.nn
 obtain ⟨n,hn⟩:∃ n,S.bs.length=n:=⟨_,rfl⟩
 obtain ⟨E,hE⟩:∃ E,S.E=E:=⟨_,rfl⟩
 obtain ⟨L,hL⟩:∃ L,srtE [] S.nm=L:=⟨_,rfl⟩
 rw [hn] at hwl hfew
 rw [hL] at hnl
 rw [hE] at hs11
 simp only [hn] at hbl hbl2
 simp only [hE] at hsi
 simp only [hL] at hen hen2
 have b1:=Yab w (.cells cs 36)
 have g0:=World.grownBy_alloc w (.cells cs 36) none
 obtain ⟨W0,hW0⟩:∃ W0,w.alloc (.cells cs 36)=W0:=⟨_,rfl⟩
 rw [hW0] at b1 g0
 have hstx:∀ V,W0.grownBy V none→V.heap[w.heap.size]?=some (.cells cs 36 (0,0)):=fun V hV=>(hV.block _ (lt_of_block b1) (by simp)).trans b1
 have HSTX:=Lib.hid hstx
 have HBL:=Lib.hid hbl
 have HBL2:=Lib.hid hbl2
 have HEN:=Lib.hid hen
 have HEN2:=Lib.hid hen2
 have HSIZE:=Lib.hid hsi
 have HLV1:=Lib.hid hl1
 have HLV2:=Lib.hid hl2
 have HWL:=Lib.hid hwl
 have HN:=Lib.hid hn
 have HG0:=Lib.hid g0
 have HS11:=Lib.hid hs11
 clear h hB hF hM hlo hbl hbl2 hen hen2 hsi hl1 hl2 hwl hstx hn hE hL hs11 hK
 go_enter Tryz.func12,Tryz.ntmps12
 go_wp2_with (first
  | (refine Yad rfl 36 _ rfl _ 0 rfl b1 cs (fun j v hj=>by simpa using hj) _ Tryz.underlying36 rfl (by rw [Yai,hs0]) ?_)
  | (go_at_call 15;go_must ((with_reducible refine (HBL.out _ HG0.out).mono ?_);rintro e w1 ⟨ga,gc,rfl,hB1,hg1'⟩;have hg1:=Yaa HG0.out hg1';have HG1:=Lib.hid hg1';replace b1:=HSTX.out _ hg1'))
  | (go_at_call 27;go_must ((with_reducible refine (HBL2.out _ hg1).mono ?_);rintro e w2 ⟨a2,c2,rfl,hB2,hg2'⟩;have hg2:=Yaa hg1 hg2';replace hB1:=hB1.later hg2';have HG2:=Lib.hid (Yaa HG1.out hg2');replace b1:=HSTX.out _ HG2.out))
  | (go_at_call 20;go_must ((with_reducible refine (HEN.out _ hg2).mono ?_);rintro e w3 ⟨v3,rfl,hE1,hg3'⟩;have hg3:=Yaa hg2 hg3';replace hB1:=hB1.later hg3';replace hB2:=hB2.later hg3';have HG3:=Lib.hid (Yaa HG2.out hg3');replace b1:=HSTX.out _ HG3.out;have HE1:=Lib.hid hE1;obtain ⟨pa,pc,pg,hv3,hpa,hpc⟩:=hE1.addr;subst hv3;clear hE1))
  | (go_at_call 28;go_must ((with_reducible refine (HEN2.out _ hg3).mono ?_);rintro e w4 ⟨v4,rfl,hE2,hg4'⟩;have hg4:=Yaa hg3 hg4';replace hB1:=hB1.later hg4';replace hB2:=hB2.later hg4';have HG4:=Lib.hid (Yaa HG3.out hg4');replace b1:=HSTX.out _ HG4.out;obtain ⟨qa,qc,qg,hv4,hqa,hqc⟩:=hE2.addr;subst hv4;have HPC:=Lib.hid (fun V (hV:w4.grownBy V none)=>hpc V (HE1.out.later (Yaa hg4' hV)));have HQC:=Lib.hid (fun V (hV:w4.grownBy V none)=>hqc V (hE2.later hV));have HPA:=Lib.hid hpa;have HQA:=Lib.hid hqa;clear hpc hqc hpa hqa hE2)))
 obtain ⟨m,hm⟩:∃ m,L.length=m:=⟨_,rfl⟩
 simp only [hm] at HPC HQC HPA HQA hnl
 simp only [hm]
 have HB1:=Lib.hid hB1
 have HB2:=Lib.hid hB2
 clear hB1 hB2
 have e1:((n:Int) != (n:Int))=false:=by simp
 have e2:((m:Int) != (m:Int))=false:=by simp
 have e3:((E:Int) != (E:Int))=false:=by simp
 have HG:w4.grownBy w4.drew none:=Yah (Yag _ _)
 have hcell1:∀ V:World,V.heap[w.heap.size]?=some (.cells cs 36 (0,0))→V.cell? ⟨w.heap.size,1,none⟩=some (.int .u64 (E:Nat)):=fun V hV=>Yas hV HS11.out
 refine wp_region_held_drew (S:=fun V=>V.heap[w.heap.size]?=some (.cells cs 36 (0,0))) (by kernel_rfl) (HSTX.out _ (Yaa HG4.out HG)) (fun hHeld=>?_)
 refine hY 0 19 (v:=?_) rfl rfl hHeld ?y0 ?r0
 case y0=>(intro w hSw;(try dsimp only at hSw);go_simp;try (with_reducible rfl))
 case r0 =>
 simp only [Act.put,List.setIfInBounds_toArray,List.set_cons_zero,List.set_cons_succ]
 refine hY 1 20 (v:=?_) rfl rfl hHeld ?y1 ?r1
 case y1=>(intro w hSw;(try dsimp only at hSw);go_simp;try (with_reducible rfl))
 case r1 =>
 simp only [Act.put,List.setIfInBounds_toArray,List.set_cons_zero,List.set_cons_succ]
 refine hY 2 21 (v:=?_) rfl rfl hHeld ?y2 ?r2
 case y2=>(intro w hSw;(try dsimp only at hSw);go_simp;try (with_reducible rfl))
 case r2 =>
 simp only [Act.put,List.setIfInBounds_toArray,List.set_cons_zero,List.set_cons_succ]
 refine hY 3 22 (v:=?_) rfl rfl hHeld ?y3 ?r3
 case y3=>(intro w hSw;(try dsimp only at hSw);go_simp;try (with_reducible rfl))
 case r3 =>
 simp only [Act.put,List.setIfInBounds_toArray,List.set_cons_zero,List.set_cons_succ]
 refine hY 4 23 (v:=?_) rfl rfl hHeld ?y4 ?r4
 case y4=>(intro w hSw;(try dsimp only at hSw);go_simp;try (with_reducible rfl))
 case r4 =>
 simp only [Act.put,List.setIfInBounds_toArray,List.set_cons_zero,List.set_cons_succ]
 refine hY 5 24 (v:=?_) rfl rfl hHeld ?y5 ?r5
 case y5=>(intro w hSw;(try dsimp only at hSw);go_simp;try (with_reducible rfl))
 case r5 =>
 simp only [Act.put,List.setIfInBounds_toArray,List.set_cons_zero,List.set_cons_succ]
 refine hY 6 25 (v:=?_) rfl rfl hHeld ?y6 ?r6
 case y6=>(intro w hSw;(try dsimp only at hSw);go_simp;try (with_reducible rfl))
 case r6 =>
 simp only [Act.put,List.setIfInBounds_toArray,List.set_cons_zero,List.set_cons_succ]
 refine hY 7 26 (v:=?_) rfl rfl hHeld ?y7 ?r7
 case y7=>(intro w hSw;(try dsimp only at hSw);go_simp;try (with_reducible rfl))
 case r7 =>
 simp only [Act.put,List.setIfInBounds_toArray,List.set_cons_zero,List.set_cons_succ]
 refine hY 8 27 (v:=?_) rfl rfl hHeld ?y8 ?r8
 case y8=>(intro w hSw;(try dsimp only at hSw);go_simp;try (with_reducible rfl))
 case r8 =>
 simp only [Act.put,List.setIfInBounds_toArray,List.set_cons_zero,List.set_cons_succ]
 refine hY 9 28 (v:=?_) rfl rfl hHeld ?y9 ?r9
 case y9=>(intro w hSw;(try dsimp only at hSw);go_simp;try (with_reducible rfl))
 case r9 =>
 simp only [Act.put,List.setIfInBounds_toArray,List.set_cons_zero,List.set_cons_succ]
 refine hY 10 29 (v:=?_) rfl rfl hHeld ?y10 ?r10
 case y10=>(intro w hSw;(try dsimp only at hSw);go_simp;try (with_reducible rfl))
 case r10 =>
 simp only [Act.put,List.setIfInBounds_toArray,List.set_cons_zero,List.set_cons_succ]
 refine hY 11 30 (v:=?_) rfl rfl hHeld ?y11 ?r11
 case y11=>(intro w hSw;(try dsimp only at hSw);go_simp;try (with_reducible rfl))
 case r11 =>
 simp only [Act.put,List.setIfInBounds_toArray,List.set_cons_zero,List.set_cons_succ]
 refine hY 12 31 (v:=?_) rfl rfl hHeld ?y12 ?r12
 case y12=>(intro w hSw;(try dsimp only at hSw);go_simp;try (with_reducible rfl))
 case r12 =>
 simp only [Act.put,List.setIfInBounds_toArray,List.set_cons_zero,List.set_cons_succ]
 refine hY 13 32 (v:=?_) rfl rfl hHeld ?y13 ?r13
 case y13=>(intro w hSw;(try dsimp only at hSw);go_simp;try (with_reducible rfl))
 case r13 =>
 simp only [Act.put,List.setIfInBounds_toArray,List.set_cons_zero,List.set_cons_succ]
 refine hY 15 34 (v:=?_) rfl rfl hHeld ?y15 ?r15
 case y15=>(intro w hSw;(try dsimp only at hSw);go_simp;try (with_reducible rfl))
 case r15 =>
 simp only [Act.put,List.setIfInBounds_toArray,List.set_cons_zero,List.set_cons_succ]
 refine hY 16 35 (v:=?_) rfl rfl hHeld ?y16 ?r16
 case y16=>(intro w hSw;(try dsimp only at hSw);go_simp;try (with_reducible rfl))
 case r16 =>
 simp only [Act.put,List.setIfInBounds_toArray,List.set_cons_zero,List.set_cons_succ]
 refine hY 17 36 (v:=.int .u64 (E:Nat)) rfl rfl hHeld ?y17 ?r17
 case y17=>exact (by intro w hSw;have hc:=hcell1 _ hSw;clear hSw;go_simp;try (with_reducible rfl))
 case r17 =>
 simp only [Act.put,List.setIfInBounds_toArray,List.set_cons_zero,List.set_cons_succ]
 refine wpAnyH_ready (rs:=[14]) (by kernel_rfl) (by simp) (AllReadyH.cons rfl (fun K hK=>?_) AllReadyH.nil)
 clear hHeld
 go_simp
 (go_at_call 22;go_must ((with_reducible refine (HSIZE.out _ (Yaa hg4 HG)).mono ?_);rintro e w6 ⟨rfl,hg6⟩;replace HG:=Yaa HG hg6))
 refine hK.out _ _ (HSTX.out _ (Yaa HG4.out HG)) (fun hHeld=>?_)
 clear hK K
 try simp only [Act.put,List.setIfInBounds_toArray,List.set_cons_zero,List.set_cons_succ]
 refine hY 18 37 (v:=?_) rfl rfl hHeld ?y18 ?r18
 case y18=>(intro w hSw;(try dsimp only at hSw);go_simp;try (with_reducible rfl))
 case r18 =>
 simp only [Act.put,List.setIfInBounds_toArray,List.set_cons_zero,List.set_cons_succ]
 refine hY 19 38 (v:=?_) rfl rfl hHeld ?y19 ?r19
 case y19=>(intro w hSw;(try dsimp only at hSw);go_simp;try (with_reducible rfl))
 case r19 =>
 simp only [Act.put,List.setIfInBounds_toArray,List.set_cons_zero,List.set_cons_succ]
 refine hY 20 39 (v:=?_) rfl rfl hHeld ?y20 ?r20
 case y20=>(intro w hSw;(try dsimp only at hSw);go_simp;try (with_reducible rfl))
 case r20 =>
 simp only [Act.put,List.setIfInBounds_toArray,List.set_cons_zero,List.set_cons_succ]
 refine hY 21 40 (v:=?_) rfl rfl hHeld ?y21 ?r21
 case y21=>(intro w hSw;(try dsimp only at hSw);go_simp;try (with_reducible rfl))
 case r21 =>
 simp only [Act.put,List.setIfInBounds_toArray,List.set_cons_zero,List.set_cons_succ]
 refine hY 23 42 (v:=.agg cs) rfl rfl hHeld ?y23 ?r23
 case y23=>exact Ycz 36 _ rfl _ 0 rfl (fun W hW=>hW) cs (fun j v hj=>by simpa using hj) _ Tryz.underlying36 rfl (by rw [Yai,hs0])
 case r23 =>
 simp only [Act.put,List.setIfInBounds_toArray,List.set_cons_zero,List.set_cons_succ]
 refine wpAnyH_ready (rs:=[22]) (by kernel_rfl) (by simp) (AllReadyH.cons rfl (fun K hK=>?_) AllReadyH.nil)
 clear hHeld
 go_simp
 (go_at_call 21;go_must ((with_reducible refine (HLV1.out _ (Yaa hg4 HG)).mono ?_);rintro e w7 ⟨v7,rfl,ho7,hg6⟩;replace HG:=Yaa HG hg6))
 refine hK.out _ _ (HSTX.out _ (Yaa HG4.out HG)) (fun hHeld=>?_)
 clear hK K
 try simp only [Act.put,List.setIfInBounds_toArray,List.set_cons_zero,List.set_cons_succ]
 refine wpAnyH_ready (rs:=[24]) (by kernel_rfl) (by simp) (AllReadyH.cons rfl (fun K hK=>?_) AllReadyH.nil)
 clear hHeld
 go_simp
 (go_at_call 30;go_must ((with_reducible refine (HLV2.out _ (Yaa hg4 HG)).mono ?_);rintro e w8 ⟨v8,rfl,ho8,hg6⟩;replace ho7:=ho7.later hg6;replace HG:=Yaa HG hg6))
 refine hK.out _ _ (HSTX.out _ (Yaa HG4.out HG)) (fun hHeld=>?_)
 clear hK K
 try simp only [Act.put,List.setIfInBounds_toArray,List.set_cons_zero,List.set_cons_succ]
 refine wpAnyH_ready (rs:=[25]) (by kernel_rfl) (by simp) (AllReadyH.cons rfl (fun K hK=>?_) AllReadyH.nil)
 clear hHeld
 go_simp
 (go_at_call 29;go_must ((with_reducible refine (ints14 ho7 ho8 (live_few _)).mono ?_);rintro e w9 ⟨rfl,hg6⟩;replace HG:=Yaa HG hg6))
 refine hK.out _ _ (HSTX.out _ (Yaa HG4.out HG)) (fun hHeld=>?_)
 clear hK K
 try simp only [Act.put,List.setIfInBounds_toArray,List.set_cons_zero,List.set_cons_succ]
 refine hY 26 45 (v:=?_) rfl rfl hHeld ?y26 ?r26
 case y26=>(intro w hSw;(try dsimp only at hSw);go_simp;try (with_reducible rfl))
 case r26 =>
 simp only [Act.put,List.setIfInBounds_toArray,List.set_cons_zero,List.set_cons_succ]
 refine hY 27 46 (v:=?_) rfl rfl hHeld ?y27 ?r27
 case y27=>(intro w hSw;(try dsimp only at hSw);go_simp;try (with_reducible rfl))
 case r27 =>
 simp only [Act.put,List.setIfInBounds_toArray,List.set_cons_zero,List.set_cons_succ]
 refine wpAnyH_done (by kernel_rfl) ?_ _
 go_wp2
 obtain ⟨w9',hw9⟩:∃ w9',w9=w9':=⟨_,rfl⟩
 have G9:=Yaa hg4 HG
 go_loopw [9] (fun i wr=>∃ k:Nat,k≤n∧i=.int .i64 k∧w4.grownBy wr none) (fun i _=>n - (intOf i).toNat)
 case atStart=>exact ⟨0,Nat.zero_le _,rfl,HG⟩
 case round =>
  obtain ⟨k,hk,rfl,hgr⟩:=hrel
  by_cases h1:k<n
  ·have h1':(k:Int)<(n:Int):=by omega
   have hkn:k<S.bs.length:=by rw [HN.out];exact h1
   obtain ⟨g1,pa1,pc1,ea1,-,hat1⟩:=HB1.out.at_ hkn
   obtain ⟨g2,pa2,pc2,ea2,-,hat2⟩:=HB2.out.at_ hkn
   injection ea1 with ea1
   injection ea1 with ea1 _ _
   subst ea1 ea2
   have hwlk:=HWL.out k h1
   obtain ⟨D,eD⟩:∃ D,wdL S k=D:=⟨_,rfl⟩
   obtain ⟨b,eb⟩:∃ b,S.bs.getD k default=b:=⟨_,rfl⟩
   rw [eD] at hwlk
   simp only [eD,eb] at hat1 hat2
   obtain ⟨q,s,u,ow,z⟩:=b
   obtain ⟨dn,edn⟩:∃ dn,D.length=dn:=⟨_,rfl⟩
   simp only [edn] at hat1 hat2
   have hmade:∀ V,w4.grownBy V none→Calls Tryz.prog 31 #[.agg (bkP ⟨q,s,u,ow,z⟩ (.slice pa1 dn pc1)),.agg (bkP ⟨q,s,u,ow,z⟩ (.slice pa2 dn pc2))] V fun e w'=>e=.returned (.bool true)∧V.grownBy w' none:=fun V hV=>made14 (hat1 V hV).2 (hat2 V hV).2 hwlk
   unfold bkP at hmade
   have hcc:∀ V,w4.grownBy V none→(V.cell? ⟨ga,k*6,none⟩=some (.int .u64 (q:Nat))∧V.cell? ⟨ga,k*6+1,none⟩=some (.int .u64 (s:Nat))∧V.cell? ⟨ga,k*6+2,none⟩=some (.bool u)∧V.cell? ⟨ga,k*6+3,none⟩=some (.int .i64 ow)∧V.cell? ⟨ga,k*6+4,none⟩=some (.int .u64 (z:Nat))∧V.cell? ⟨ga,k*6+5,none⟩=some (.slice pa1 dn pc1))∧V.cell? ⟨g2,k*6,none⟩=some (.int .u64 (q:Nat))∧V.cell? ⟨g2,k*6+1,none⟩=some (.int .u64 (s:Nat))∧V.cell? ⟨g2,k*6+2,none⟩=some (.bool u)∧V.cell? ⟨g2,k*6+3,none⟩=some (.int .i64 ow)∧V.cell? ⟨g2,k*6+4,none⟩=some (.int .u64 (z:Nat))∧V.cell? ⟨g2,k*6+5,none⟩=some (.slice pa2 dn pc2):=fun V hV=>⟨(hat1 V hV).1,(hat2 V hV).1⟩
   have HMADE:=Lib.hid hmade
   have HCC:=Lib.hid hcc
   clear hat1 hat2 hmade hcc hwlk eD eb edn hkn
   go_wp2
   have HG2:w4.grownBy wr.drew none:=Yah hgr
   obtain ⟨⟨y0,y1,y2,y3,y4,y5⟩,z0,z1,z2,z3,z4,z5⟩:=HCC.out _ HG2
   go_region_held3 (fun V=>(V.cell? ⟨ga,k*6,none⟩=some (.int .u64 (q:Nat))∧V.cell? ⟨ga,k*6+1,none⟩=some (.int .u64 (s:Nat))∧V.cell? ⟨ga,k*6+2,none⟩=some (.bool u)∧V.cell? ⟨ga,k*6+3,none⟩=some (.int .i64 ow)∧V.cell? ⟨ga,k*6+4,none⟩=some (.int .u64 (z:Nat))∧V.cell? ⟨ga,k*6+5,none⟩=some (.slice pa1 dn pc1))∧V.cell? ⟨g2,k*6,none⟩=some (.int .u64 (q:Nat))∧V.cell? ⟨g2,k*6+1,none⟩=some (.int .u64 (s:Nat))∧V.cell? ⟨g2,k*6+2,none⟩=some (.bool u)∧V.cell? ⟨g2,k*6+3,none⟩=some (.int .i64 ow)∧V.cell? ⟨g2,k*6+4,none⟩=some (.int .u64 (z:Nat))∧V.cell? ⟨g2,k*6+5,none⟩=some (.slice pa2 dn pc2)) (exact HCC.out _ HG2) (first
    | (go_at_call 31;(with_reducible refine (HMADE.out _ HG2).mono ?_);rintro e w11 ⟨rfl,hg11⟩;replace HG2:=Yaa HG2 hg11;obtain ⟨⟨y0,y1,y2,y3,y4,y5⟩,z0,z1,z2,z3,z4,z5⟩:=HCC.out _ HG2))
   go_wp2
   go_roundw
   case rel=>exact ⟨k+1,by omega,by go_num,HG2⟩
   case measure=>simp [intOf];omega
  ·obtain rfl:k=n:=by omega
   have h1':¬ (k:Int)<(k:Int):=by omega
   go_wp2
   obtain ⟨wo,hwo⟩:∃ wo,wr=wo:=⟨_,rfl⟩
   subst hwo
   go_loopw [10] (fun i wz=>∃ j:Nat,j≤m∧i=.int .i64 j∧w4.grownBy wz none) (fun i _=>m - (intOf i).toNat)
   case atStart=>exact ⟨0,Nat.zero_le _,rfl,hgr⟩
   case round =>
    obtain ⟨j,hj,rfl,hgr2⟩:=hrel
    by_cases h2:j<m
    ·have hki:(j:Int)<(m:Int):=by omega
     have hgd:=Yah hgr2
     obtain ⟨p0,p1⟩:=HPC.out _ hgd j h2
     obtain ⟨q0,q1⟩:=HQC.out _ hgd j h2
     obtain rfl:=HPA.out (by omega)
     obtain rfl:=HQA.out (by omega)
     obtain ⟨s,es⟩:∃ s,entS L j=s:=⟨_,rfl⟩
     obtain ⟨o,eo⟩:∃ o,entO L j=o:=⟨_,rfl⟩
     rw [es] at p0 q0
     rw [eo] at p1 q1
     have hoo:((o:Int) != (o:Int))=false:=by simp
     have hk1:IntKind.i64.wrap ((j:Int)+1)=((j+1:Nat):Int):=by rw [IntKind.wrap_i64];omega
     clear es eo
     go_wp2
     go_region_held3 (fun V=>V.cell? ⟨pg,j*2,none⟩=some (.string s)∧V.cell? ⟨pg,j*2+1,none⟩=some (.int .u64 (o:Nat))∧V.cell? ⟨qg,j*2,none⟩=some (.string s)∧V.cell? ⟨qg,j*2+1,none⟩=some (.int .u64 (o:Nat))) (exact ⟨p0,p1,q0,q1⟩) (fail)
     go_wp2
     go_roundw
     case rel=>exact ⟨j+1,by omega,by go_num,hgd⟩
     case measure=>simp [intOf];omega
    ·obtain rfl:j=m:=by omega
     have hkk:¬ (j:Int)<(j:Int):=by omega
     go_wp2
     go_ret
     exact ⟨rfl,Yaa hg4 hgr2⟩
end
end
end Go.Proofs.YtfhiljglfhekdaaGreat
