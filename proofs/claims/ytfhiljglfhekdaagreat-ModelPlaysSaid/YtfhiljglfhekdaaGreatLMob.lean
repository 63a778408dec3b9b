/-
  Texts of one layer, one behind the other: memory, contracts of the functions, and what follows of them.
  Conditions: as each theorem says.
-/
import Derived.Test.YtfhiljglfhekdaaGreatLMoa
import Derived.Test.YtfhiljglfhekdaaGreatLRea
import Derived.Test.YtfhiljglfhekdaaGreatLCaa
import Derived.Test.YtfhiljglfhekdaaGreatLWoa
import Derived.Test.YtfhiljglfhekdaaGreatLPha
import Derived.StillTailTactics
import Derived.BigQuiet
import Derived.Test.YtfhiljglfhekdaaGreatLTaa
import Derived.Deep.RegionHeld3
import Derived.Deep.QuietTactic
import Derived.Laws.StructEq
import Derived.Deep.AppendLies
import Derived.Laws.AppendOwnNone
import Derived.Test.YtfhiljglfhekdaaGreatLTxa
import Derived.RangeFuncCalls
import Derived.TacticsInMore
import Derived.OrdersIn
import Derived.Test.YtfhiljglfhekdaaGreatLSea
import Derived.Deep.LoopGhost
import Derived.Test.YtfhiljglfhekdaaGreatLHea
import Derived.Shelf.RegionOpen
import Derived.RangeFuncBox
import Derived.Test.YtfhiljglfhekdaaGreatLCla
import Derived.Test.YtfhiljglfhekdaaGreatLTra
import Derived.Sort.Grow
import Derived.Test.YtfhiljglfhekdaaGreatLRec
import Derived.Maps.AppendAt
set_option linter.unusedVariables false
set_option linter.unusedSimpArgs false
set_option maxRecDepth 100000
namespace Go.Proofs.YtfhiljglfhekdaaGreat
open Go.RowKit
section
theorem Ya8 {w w':World} {base size n b:Nat} {e t:TypeId} {v:Value} {xs:List Value} {cs:Array Value} {fr:Nat × Nat} (ho:w.ownsRow base e size v n xs) (hg:w.grownBy w' (some b)) (hb:w.heap[b]?=some (.cells cs t fr)) (ht:t≠e):w'.ownsRow base e size v n xs:=by
 refine World.ownsRow.kept ho hg ?_
 by_cases e1:v.ownBlock=none
 ·exact .inl e1
 ·refine .inr fun e2=>?_
  obtain ⟨_,cur,h3⟩:=Yct ho e2
  rw [hb] at h3
  injection h3 with h3
  injection h3 with _ h3 _
  exact ht h3
structure Rows4 (w:World) (F:Nat→Prop) (base:Nat) (la:Option Addr) (n c:Nat) (va:Nat→Option Addr) (ln vc:Nat→Nat) (bs:List Blk) (L:Nat→List Nat) (da:Option Addr) (dn dc:Nat) (lD:List (Nat × Value × List Nat)) (na:Option Addr) (nn nc:Nat) (nm:List (ByteArray × Nat)):Prop where
 b:OwnB w base 81 (.slice la n c) bs
 l:∀ k,k<8→KF w F base (.slice (va k) (ln k) (vc k)) (L k)
 d:OwnD w base base (.slice da dn dc) lD
 n:OwnN w base 86 (.slice na nn nc) nm
 f:∀ t∈lD,∀ g,t.2.1.ownBlock=some g→¬ F g
def boxT (t:TypeId):Prop:=t≠81∧t≠26∧t≠134∧t≠86
section
variable {w w':World} {F:Nat→Prop} {base b:Nat} {la:Option Addr} {n c:Nat} {va:Nat→Option Addr} {ln vc:Nat→Nat} {bs:List Blk} {L:Nat→List Nat} {da:Option Addr} {dn dc:Nat} {lD:List (Nat × Value × List Nat)} {na:Option Addr} {nn nc:Nat} {nm:List (ByteArray × Nat)} {t:TypeId} {cs:Array Value}
theorem Rows4.later (h:Rows4 w F base la n c va ln vc bs L da dn dc lD na nn nc nm) (hg:w.grownBy w' none):Rows4 w' F base la n c va ln vc bs L da dn dc lD na nn nc nm :=
 ⟨h.b.later hg,fun k hk=>(h.l k hk).later hg,h.d.later hg,h.n.later hg,h.f⟩
theorem Rows4.past (h:Rows4 w F base la n c va ln vc bs L da dn dc lD na nn nc nm) (hg:w.grownBy w' (some b)) (hb:w.heap[b]?=some (.cells cs t (0,0))) (ht:boxT t):Rows4 w' F base la n c va ln vc bs L da dn dc lD na nn nc nm :=
 ⟨Ya8 h.b hg hb ht.1,fun k hk=>⟨Ya8 (h.l k hk).1 hg hb ht.2.1,(h.l k hk).2⟩,⟨Ya8 h.d.1 hg hb ht.2.2.1,fun q hq=>Ya8 (h.d.2 q hq) hg hb ht.2.1⟩,Ya8 h.n hg hb ht.2.2.2,h.f⟩
structure RowsM (m:Nat) (w:World) (F:Nat→Prop) (base:Nat) (la:Option Addr) (n c:Nat) (va:Nat→Option Addr) (ln vc:Nat→Nat) (bs:List Blk) (L:Nat→List Nat) (da:Option Addr) (dn dc:Nat) (lD:List (Nat × Value × List Nat)) (na:Option Addr) (nn nc:Nat) (nm:List (ByteArray × Nat)):Prop where
 rows:Rows4 w F base la n c va ln vc bs L da dn dc lD na nn nc nm
 bl:∀ g,(Value.slice la n c).ownBlock=some g→g<m
theorem Rows4.all (h:Rows4 w F base la n c va ln vc bs L da dn dc lD na nn nc nm):RowsM w.heap.size w F base la n c va ln vc bs L da dn dc lD na nn nc nm :=
 ⟨h,fun g e=>(World.ownsRow.lt h.b g e).2⟩
theorem RowsM.later {m:Nat} (h:RowsM m w F base la n c va ln vc bs L da dn dc lD na nn nc nm) (hg:w.grownBy w' none):RowsM m w' F base la n c va ln vc bs L da dn dc lD na nn nc nm:=⟨h.rows.later hg,h.bl⟩
theorem RowsM.past {m:Nat} (h:RowsM m w F base la n c va ln vc bs L da dn dc lD na nn nc nm) (hg:w.grownBy w' (some b)) (hb:w.heap[b]?=some (.cells cs t (0,0))) (ht:boxT t):RowsM m w' F base la n c va ln vc bs L da dn dc lD na nn nc nm:=⟨h.rows.past hg hb ht,h.bl⟩
theorem RowsM.new {m:Nat} {fr:Nat × Nat} (h:RowsM m w F base la n c va ln vc bs L da dn dc lD na nn nc nm) (hg:w.grownBy w' (some b)) (hb:w.heap[b]?=some (.cells cs 81 fr)) (hm:m≤b):RowsM m w' F base la n c va ln vc bs L da dn dc lD na nn nc nm :=
 ⟨⟨World.ownsRow.kept h.rows.b hg (.inr fun e=>by have:=h.bl _ e;omega),fun k hk=>⟨Ya8 (h.rows.l k hk).1 hg hb (by decide),(h.rows.l k hk).2⟩,⟨Ya8 h.rows.d.1 hg hb (by decide),fun q hq=>Ya8 (h.rows.d.2 q hq) hg hb (by decide)⟩,Ya8 h.rows.n hg hb (by decide),h.rows.f⟩,h.bl⟩
theorem RowsM.list {m k:Nat} {x:Option Addr} {y z:Nat} {xs:List Nat} (h:RowsM m w F base la n c va ln vc bs L da dn dc lD na nn nc nm) (ho:KF w F base (.slice x y z) xs):RowsM m w F base la n c (oth va k x) (oth ln k y) (oth vc k z) bs (setL L k xs) da dn dc lD na nn nc nm :=
 ⟨⟨h.rows.b,fun j hj=>by
  unfold oth setL
  by_cases e:j=k
  ·rw [if_pos e,if_pos e,if_pos e,if_pos e];exact ho
  ·rw [if_neg e,if_neg e,if_neg e,if_neg e];exact h.rows.l j hj,h.rows.d,h.rows.n,h.rows.f⟩,h.bl⟩
end
theorem Ybt:boxT 36:=by unfold boxT;decide
theorem boxHp:boxT 31:=by unfold boxT;decide
theorem boxRs:boxT 46:=by unfold boxT;decide
section
variable {w w' W:World} {rb:Nat} {all E:Nat} {la:Option Addr} {n c:Nat} {va:Nat→Option Addr} {ln vc:Nat→Nat} {da:Option Addr} {dn dc:Nat} {na:Option Addr} {nn nc:Nat} {lv:Nat→Bool} {t2:TypeId} {x0 x1 x2:Value} {cs:Array Value}
theorem res_boxes (cs:Array Value):(((w.alloc (.cells cs 36)).alloc (.cells sZ 36)).alloc (.cells #[.int .i64 0,.int .u64 0,.int .u64 0] 46)).heap[w.heap.size]?=some (.cells cs 36 (0,0)) ∧
  (((w.alloc (.cells cs 36)).alloc (.cells sZ 36)).alloc (.cells #[.int .i64 0,.int .u64 0,.int .u64 0] 46)).heap[w.heap.size+1]?=some (.cells sZ 36 (0,0)) ∧
  (((w.alloc (.cells cs 36)).alloc (.cells sZ 36)).alloc (.cells #[.int .i64 0,.int .u64 0,.int .u64 0] 46)).heap[w.heap.size+1+1]?=some (.cells #[.int .i64 0,.int .u64 0,.int .u64 0] 46 (0,0)) ∧
  w.grownBy (((w.alloc (.cells cs 36)).alloc (.cells sZ 36)).alloc (.cells #[.int .i64 0,.int .u64 0,.int .u64 0] 46)) none:=by
 have h1:=Yab w (.cells cs 36)
 have h2:=Yab (w.alloc (.cells cs 36)) (.cells sZ 36)
 have h3:=Yab ((w.alloc (.cells cs 36)).alloc (.cells sZ 36)) (.cells #[.int .i64 0,.int .u64 0,.int .u64 0] 46)
 simp only [World.size_alloc] at h2 h3
 have g1:=World.grownBy_alloc w (.cells cs 36) none
 have g2:=World.grownBy_alloc (w.alloc (.cells cs 36)) (.cells sZ 36) none
 have g3:=World.grownBy_alloc ((w.alloc (.cells cs 36)).alloc (.cells sZ 36)) (.cells #[.int .i64 0,.int .u64 0,.int .u64 0] 46) none
 exact ⟨((Yaa g2 g3).block _ (lt_of_block h1) (by simp)).trans h1,(g3.block _ (lt_of_block h2) (by simp)).trans h2,h3,Yaa g1 (Yaa g2 g3)⟩
theorem rtold14 (bad:Int) :
  Calls Tryz.prog 48 #[.agg (sC all E la n c va ln vc da dn dc na nn nc lv),.int .i64 bad] w fun e w'=>e=.returned (.tuple #[.agg (sC all E la n c va ln vc da dn dc na nn nc lv),.agg #[.int .i64 bad,.int .u64 0,.int .u64 0]])∧w.grownBy w' none:=by
 obtain ⟨b1,b2,b3,hg⟩:=res_boxes (w:=w) (sC all E la n c va ln vc da dn dc na nn nc lv)
 obtain ⟨W0,hW0⟩:∃ W0,(((w.alloc (.cells (sC all E la n c va ln vc da dn dc na nn nc lv) 36)).alloc (.cells sZ 36)).alloc (.cells #[.int .i64 0,.int .u64 0,.int .u64 0] 46))=W0:=⟨_,rfl⟩
 rw [hW0] at b1 b2 b3 hg
 have hs1:=sC_one (all:=all) (E:=E) (la:=la) (n:=n) (c:=c) (va:=va) (ln:=ln) (vc:=vc) (da:=da) (dn:=dn) (dc:=dc) (na:=na) (nn:=nn) (nc:=nc) (lv:=lv)
 have hs0:=sC_size (all:=all) (E:=E) (la:=la) (n:=n) (c:=c) (va:=va) (ln:=ln) (vc:=vc) (da:=da) (dn:=dn) (dc:=dc) (na:=na) (nn:=nn) (nc:=nc) (lv:=lv)
 obtain ⟨cs,hcs⟩:∃ cs,sC all E la n c va ln vc da dn dc na nn nc lv=cs:=⟨_,rfl⟩
 rw [hcs] at b1 hs1 hs0 hW0 ⊢
 have HCS:=Lib.hid hcs
 clear hcs
 unfold sZ at hW0
 go_enter Tryz.func48,Tryz.ntmps48
 go_wp2_with (first
  | (refine Yad rfl 36 _ rfl _ 0 rfl b1 cs (fun j v hj=>by simpa using hj) _ Tryz.underlying36 rfl (by rw [Yai,hs0]) ?_)
  | (refine Yae rfl 36 _ _ rfl _ 0 rfl rfl b2 (by rw [hs0];exact Nat.le_refl _) (by rw [Yai,hs0]) hs1 ?_;intro W1 p1 g1;rw [Yau _ _ hs0] at p1;have p3:=(g1.block _ (lt_of_block b3) (by simp)).trans b3;obtain ⟨y0,y1,y2⟩:=Yaf p3;obtain ⟨z0,z1,z2⟩:=Yak p3))
 have q:=Yaz p3 (x':=.int .i64 bad) (y':=.int .u64 0) (z':=.int .u64 0)
 have g2:W1.grownBy (((W1.setCell ⟨w.heap.size+1+1,0,none⟩ (.int .i64 bad)).setCell ⟨w.heap.size+1+1,1,none⟩ (.int .u64 0)).setCell ⟨w.heap.size+1+1,2,none⟩ (.int .u64 0)) (some (w.heap.size+1+1)):=Yaa (Yac _ _ _ _) (Yaa (Yac _ _ _ _) (Yac _ _ _ _))
 have q1:=(g2.block _ (lt_of_block p1) (by simp)).trans p1
 refine bodyPost_ret (Yav rfl _ rfl rfl q1 q Tryz.underlying36 rfl (by rw [Yai,hs0]) Tryz.underlying46 rfl Ya0) rfl ?_
 exact ⟨rfl,Yaj (Yaj hg g1 (fun i hi=>.inl (by injection hi with hi;omega))) g2 (fun i hi=>.inl (by injection hi with hi;omega))⟩
end
end
section
section
variable {w w' W:World} {F:Nat→Prop} {base all K:Nat} {v:Value} {S:MS}
set_option maxHeartbeats 2000000 in
theorem rfreed14 (h:StIs w F base v all S) (hF:Fine K S.E S.bs S.L) (hK:K≤800) (hds:S.ds.length≤1000000) (hFb:∀ g,F g→g<w.heap.size) (hbw:base≤w.heap.size) (p:Nat) :
  Calls Tryz.prog 41 #[v,.int .u64 p] w fun e w'=>∃ v',e=.returned v'∧StIs w' F base v' all { S with bs:=frB S.bs p,L:=frL S.bs S.L p,ds:=drpL S.ds p }∧w.grownBy w' none:=by
 obtain ⟨la,n,c,va,ln,vc,da,dn,dc,na,nn,nc,lD,rfl,hb,hl,hd,hpl,hn,hf⟩:=h
 have hin:=hR_in (all:=all) (E:=S.E) (la:=la) (n:=n) (c:=c) (va:=va) (ln:=ln) (vc:=vc) (da:=da) (dn:=dn) (dc:=dc) (na:=na) (nn:=nn) (nc:=nc) (lv:=S.lv)
 have hhp:=fun (E':Nat) (la':Option Addr) (n' c':Nat) (va':Nat→Option Addr) (ln' vc':Nat→Nat)=>sC_heap (all:=all) (E:=S.E) (la:=la) (n:=n) (c:=c) (va:=va) (ln:=ln) (vc:=vc) (da:=da) (dn:=dn) (dc:=dc) (na:=na) (nn:=nn) (nc:=nc) (lv:=S.lv) (E':=E') (la':=la') (n':=n') (c':=c') (va':=va') (ln':=ln') (vc':=vc')
 have hs1:=sC_one (all:=all) (E:=S.E) (la:=la) (n:=n) (c:=c) (va:=va) (ln:=ln) (vc:=vc) (da:=da) (dn:=dn) (dc:=dc) (na:=na) (nn:=nn) (nc:=nc) (lv:=S.lv)
 have hs0:=sC_size (all:=all) (E:=S.E) (la:=la) (n:=n) (c:=c) (va:=va) (ln:=ln) (vc:=vc) (da:=da) (dn:=dn) (dc:=dc) (na:=na) (nn:=nn) (nc:=nc) (lv:=S.lv)
 have hlD:lD.length≤1000000:=by
  have:lD.length=S.ds.length:=by rw [← hpl];simp [Yc6]
  omega
 obtain ⟨cs,hcs⟩:∃ cs,sC all S.E la n c va ln vc da dn dc na nn nc S.lv=cs:=⟨_,rfl⟩
 rw [hcs] at hs1 hs0 ⊢
 simp only [hcs] at hin hhp
 have hv0:=hv_of (E:=S.E) hb hl
 obtain ⟨hs,hhs⟩:∃ hs,hR S.E la n c va ln vc=hs:=⟨_,rfl⟩
 have hhz:hs.size=10:=by rw [← hhs];rfl
 rw [hhs] at hv0 hin
 have b1:=Yab w (.cells cs 36)
 have b2:=Yab (w.alloc (.cells cs 36)) (.cells sZ 36)
 rw [World.size_alloc] at b2
 have g01:=World.grownBy_alloc w (.cells cs 36) none
 have g02:=World.grownBy_alloc (w.alloc (.cells cs 36)) (.cells sZ 36) none
 have hg:=Yaa g01 g02
 have b1':=(g02.block _ (lt_of_block b1) (by simp)).trans b1
 obtain ⟨W0,hW0⟩:∃ W0,((w.alloc (.cells cs 36)).alloc (.cells sZ 36))=W0:=⟨_,rfl⟩
 rw [hW0] at b1' b2 hg
 have hfr:=fr_fineF (V:=W0) (F0:=F) (base:=base) hF hK (fun g e=>Nat.lt_of_lt_of_le (hFb g e) hg.size) (hv0.later hg) (Nat.le_trans hbw hg.size) p
 have hdr:=fun (V:World) (hV:w.grownBy V none)=>rdrop14 (hd.later hV) hlD p
 have HIN:=Lib.hid hin
 have HHP:=Lib.hid hhp
 have HDR:=Lib.hid hdr
 have HC11:Hid (cs[11]?=some (.slice da dn dc)):=Lib.hid (by rw [← hcs];rfl)
 clear hin hhp hdr b1 g01 g02 hv0 hhs hlD
 unfold sZ at hW0
 go_enter Tryz.func41,Tryz.ntmps41
 go_wp2_with (first
  | (refine Yad rfl 31 _ rfl _ 1 rfl b1' hs HIN.out _ Tryz.underlying31 rfl (by rw [Ybc,hhz]) ?_)
  | (go_at_call 70;(with_reducible refine hfr.mono ?_);rintro e w1 ⟨v1,rfl,hv1,hg1⟩;obtain ⟨la',n',c',va',ln',vc',rfl,hb',hl'⟩:=hv_form hv1;have hh0:(hR S.E la' n' c' va' ln' vc').size=10:=rfl;have hh1:=hR_one (E:=S.E) (la:=la') (n:=n') (c:=c') (va:=va') (ln:=ln') (vc:=vc');have ho:=HHP.out S.E la' n' c' va' ln' vc';obtain ⟨ht,hht⟩:∃ ht,hR S.E la' n' c' va' ln' vc'=ht:=⟨_,rfl⟩;rw [hht] at hh0 hh1 ho;have hs21:=sC_size (all:=all) (E:=S.E) (la:=la') (n:=n') (c:=c') (va:=va') (ln:=ln') (vc:=vc') (da:=da) (dn:=dn) (dc:=dc) (na:=na) (nn:=nn) (nc:=nc) (lv:=S.lv);have b5:=Yab w1 (.cells #[.int .u64 0,.slice none 0 0,.slice none 0 0,.slice none 0 0,.slice none 0 0,.slice none 0 0,.slice none 0 0,.slice none 0 0,.slice none 0 0,.slice none 0 0] 31);have g5:=World.grownBy_alloc w1 (.cells #[.int .u64 0,.slice none 0 0,.slice none 0 0,.slice none 0 0,.slice none 0 0,.slice none 0 0,.slice none 0 0,.slice none 0 0,.slice none 0 0,.slice none 0 0] 31) none)
  | (refine Yae rfl 31 _ _ rfl _ 0 rfl rfl b5 (by rw [hh0];exact Nat.le_refl _) (by rw [Ybc,hh0]) hh1 ?_;intro W2 p5 g2;rw [Yau _ _ hh0] at p5;have hsz:=Nat.lt_of_lt_of_le (lt_of_block b1') hg1.size;have q1:=(g2.block _ (by rw [World.size_alloc];omega) (by simp;omega)).trans ((g5.block _ (by omega) (by simp)).trans ((hg1.block _ (lt_of_block b1') (by simp)).trans b1')))
  | (refine Yad rfl 31 _ rfl _ 0 rfl p5 ht (fun j v hj=>by simpa using hj) _ Tryz.underlying31 rfl (by rw [Ybc,hh0]) ?_)
  | (refine Yae rfl 31 _ _ rfl _ 1 rfl rfl q1 (by rw [hh0,hs0];omega) (by rw [Ybc,hh0]) hh1 ?_;intro W3 p6 g3;rw [ho] at p6;have c11:=Yas p6 (show (sC all S.E la' n' c' va' ln' vc' da dn dc na nn nc S.lv)[11]?=some (.slice da dn dc) from rfl);have hs1':=hg1.size;have hs5:=g5.size;have hb2l:=lt_of_block b2;have r2:=(g2.block (w.heap.size+1) (by omega) (by simp;omega)).trans ((g5.block _ (by omega) (by simp)).trans ((hg1.block _ (lt_of_block b2) (by simp)).trans b2));have r3:=(g3.block _ (lt_of_block r2) (by simp)).trans r2;have G1:=Yaa hg (Yaa hg1 g5);have G3:=Yaj (Yaj G1 g2 (fun i hi=>.inl (by injection hi with hi;omega))) g3 (fun i hi=>.inl (by injection hi with hi;omega)))
  | (go_at_call 71;(with_reducible refine (HDR.out W3 G3).mono ?_);rintro e w4 ⟨v4,rfl,hD4,hg4⟩;obtain ⟨ua,uc,hv4⟩:=hD4.form;obtain ⟨um,hum⟩:∃ m,(drpD lD p).length=m:=⟨_,rfl⟩;rw [hum] at hv4;subst hv4;have p7:=(hg4.block _ (lt_of_block p6) (by simp)).trans p6;have c11:=Yas p7 (show (sC all S.E la' n' c' va' ln' vc' da dn dc na nn nc S.lv)[11]?=some (.slice da dn dc) from rfl);have z11:=Ydw p7 11;have p8:=Yb7 (k:=11) (v:=.slice ua um uc) p7;rw [sC_data] at p8;have r4:=(hg4.block _ (lt_of_block r3) (by simp)).trans r3;have g8:=Yac w4 w.heap.size 11 (.slice ua um uc);have r8:=(g8.block _ (lt_of_block r4) (by simp)).trans r4)
  | (refine Yad rfl 36 _ rfl _ 0 rfl p8 (sC all S.E la' n' c' va' ln' vc' ua um uc na nn nc S.lv) (fun j v hj=>by simpa using hj) _ Tryz.underlying36 rfl Yai ?_)
  | (refine Yae (ps:=sC all S.E la' n' c' va' ln' vc' ua um uc na nn nc S.lv) rfl 36 _ _ rfl _ 0 rfl rfl r8 (Nat.le_refl 21) Yai sC_one ?_;intro W9 p9 g9;rw [ovr_st] at p9))
 refine bodyPost_ret (results_cell_row rfl _ _ _ _ _ _ _ rfl p9 Tryz.underlying36 rfl Yai) rfl ?_
 have G4:=Yaa G3 hg4
 have G9:=Yaj (Yaj G4 g8 (fun i hi=>.inl (by injection hi with hi;omega))) g9 (fun i hi=>.inl (by injection hi with hi;omega))
 have R1:Rows4 w1 F base la' n' c' va' ln' vc' (frB S.bs p) (frL S.bs S.L p) da dn dc lD na nn nc S.nm:=⟨hb',hl',hd.later (Yaa hg hg1),hn.later (Yaa hg hg1),hf⟩
 have R4:=((((R1.later g5).past g2 b5 boxHp).past g3 q1 Ybt).later hg4)
 have R5:Rows4 w4 F base la' n' c' va' ln' vc' (frB S.bs p) (frL S.bs S.L p) ua um uc (drpD lD p) na nn nc S.nm:=⟨R4.b,R4.l,hD4.mono (Nat.le_trans hbw G3.size) (Nat.le_refl _),R4.n,fun t ht=>R4.f t (List.mem_filter.1 ht).1⟩
 have R9:=(R5.past g8 p7 Ybt).past g9 r8 Ybt
 exact ⟨_,rfl,⟨la',n',c',va',ln',vc',ua,um,uc,na,nn,nc,drpD lD p,rfl,R9.b,R9.l,R9.d,by rw [drpD_plain,hpl],R9.n,R9.f⟩,G9⟩
end
end
section
def mtB (bs:List Blk) (o m a:Nat):List Blk:=if Yax bs m a=0 then tkB bs o m a else bs
def mtL (bs:List Blk) (L:Nat→List Nat) (o m a:Nat):Nat→List Nat:=if Yax bs m a=0 then tkL bs L o m a else L
def mtP (bs:List Blk) (m a:Nat):Nat:=if Yax bs m a=0 then tkP bs m a else 0
theorem fit_zero {bs:List Blk} {m a:Nat} (h:Yax bs m a=0):Ybr a∧m≤18446744073709551560∧∃ i,fitM bs m a=some i:=by
 unfold Yax at h
 split at h
 ·cases h
 ·rename_i h1
  split at h
  ·cases h
  ·rename_i h2
   split at h
   ·cases h
   ·rename_i h3
    exact ⟨Classical.not_not.1 h1,by omega,Option.ne_none_iff_exists'.1 h3⟩
section
variable {w w' W:World} {F:Nat→Prop} {base all K:Nat} {v:Value} {S:MS}
theorem rtk_all {E:Nat} {bs:List Blk} {L:Nat→List Nat} (h:Fine K E bs L) (hK:K≤800) (hFb:∀ g,F g→g<w.heap.size) (hv:HvF w F base v E bs L) (hbw:base≤w.heap.size) (o m a:Nat) (ho:o≤8) (hm:m<18446744073709551616) (ha:a<18446744073709551616) :
  Calls Tryz.prog 76 #[v,.int .i64 o,.int .u64 m,.int .u64 a] w fun e w'=>∃ v',e=.returned (.tuple #[v',.int .u64 (mtP bs m a:Nat),.int .i64 (Yax bs m a:Nat)])∧HvF w' F base v' E (mtB bs o m a) (mtL bs L o m a)∧w.grownBy w' none:=by
 unfold mtP mtB mtL
 by_cases hf:Yax bs m a=0
 ·obtain ⟨h1,h2,i,h3⟩:=fit_zero hf
  rw [if_pos hf,if_pos hf,if_pos hf,hf]
  have:=tk_fineF (V:=w) (F0:=F) (owner:=o) h hK hFb hv hbw h1 h2 ho
  have he:tkE bs m a=0:=by unfold tkE;rw [h3]
  rw [he] at this
  exact this
 ·rw [if_neg hf,if_neg hf,if_neg hf]
  have hlen:bs.length≤1000:=by have:=h.few;omega
  refine (rtake10_bad hv.is hlen h.bounds hm ha (owner:=(o:Int)) (by omega) (by omega) rfl (by omega)).mono ?_
  rintro e w' ⟨rfl,hg⟩
  exact ⟨v,rfl,hv.later hg,hg⟩
theorem fit_small {E:Nat} {bs:List Blk} {L:Nat→List Nat} {m a:Nat} (h:Fine K E bs L) (hf:Yax bs m a=0):m≤4800:=by
 obtain ⟨h1,h2,i,h3⟩:=fit_zero hf
 obtain ⟨q1,q2,q3,q4⟩:=fitM_is h3
 have hb:bs.getD i default∈bs:=by rw [List.getD_eq_getElem?_getD,List.getElem?_eq_getElem q1];exact List.getElem_mem q1
 have:=(h.is _ hb).2.2.1
 have:=h.low
 have h40:m≤Yat m:=by unfold Yat;split <;> omega
 omega
def mTk (S:MS) (o m a:Nat):MS:=if Yax S.bs m a=0 then { S with bs:=tkB S.bs o m a,L:=tkL S.bs S.L o m a,ds:=putL S.ds (tkP S.bs m a) (sizN [] ((m+7) / 8)) } else S
theorem plainD_put (l:List (Nat × Value × List Nat)) (p:Nat) (v:Value) (d:List Nat):Yc6 (drpD l p++[(p,v,d)])=putL (Yc6 l) p d:=by
 unfold putL
 rw [← drpD_plain]
 unfold Yc6
 rw [List.map_append]
 rfl
set_option maxHeartbeats 4000000 in
theorem rtake14 (h:StIs w F base v all S) (hF:Fine K S.E S.bs S.L) (hK:K≤800) (hds:S.ds.length≤1000000) (hFb:∀ g,F g→g<w.heap.size) (hbw:base≤w.heap.size) (o m a:Nat) (ho:o≤8) (hm:m<18446744073709551616) (ha:a<18446744073709551616) :
  Calls Tryz.prog 49 #[v,.int .i64 o,.int .u64 m,.int .u64 a] w fun e w'=>∃ v',e=.returned (.tuple #[v',.agg #[.int .i64 (Yax S.bs m a:Nat),.int .u64 (mtP S.bs m a:Nat),.int .u64 0]])∧StIs w' F base v' all (mTk S o m a)∧w.grownBy w' none:=by
 have hsm:Yax S.bs m a=0→m≤4800:=fit_small hF
 obtain ⟨la,n,c,va,ln,vc,da,dn,dc,na,nn,nc,lD,rfl,hb,hl,hd,hpl,hn,hf⟩:=h
 have hin:=hR_in (all:=all) (E:=S.E) (la:=la) (n:=n) (c:=c) (va:=va) (ln:=ln) (vc:=vc) (da:=da) (dn:=dn) (dc:=dc) (na:=na) (nn:=nn) (nc:=nc) (lv:=S.lv)
 have hhp:=fun (E':Nat) (la':Option Addr) (n' c':Nat) (va':Nat→Option Addr) (ln' vc':Nat→Nat)=>sC_heap (all:=all) (E:=S.E) (la:=la) (n:=n) (c:=c) (va:=va) (ln:=ln) (vc:=vc) (da:=da) (dn:=dn) (dc:=dc) (na:=na) (nn:=nn) (nc:=nc) (lv:=S.lv) (E':=E') (la':=la') (n':=n') (c':=c') (va':=va') (ln':=ln') (vc':=vc')
 have hs1:=sC_one (all:=all) (E:=S.E) (la:=la) (n:=n) (c:=c) (va:=va) (ln:=ln) (vc:=vc) (da:=da) (dn:=dn) (dc:=dc) (na:=na) (nn:=nn) (nc:=nc) (lv:=S.lv)
 have hs0:=sC_size (all:=all) (E:=S.E) (la:=la) (n:=n) (c:=c) (va:=va) (ln:=ln) (vc:=vc) (da:=da) (dn:=dn) (dc:=dc) (na:=na) (nn:=nn) (nc:=nc) (lv:=S.lv)
 have hlD:lD.length≤1000000:=by
  have:lD.length=S.ds.length:=by rw [← hpl];simp [Yc6]
  omega
 obtain ⟨cs,hcs⟩:∃ cs,sC all S.E la n c va ln vc da dn dc na nn nc S.lv=cs:=⟨_,rfl⟩
 rw [hcs] at hs1 hs0 ⊢
 simp only [hcs] at hin hhp
 have hv0:=hv_of (E:=S.E) hb hl
 obtain ⟨hs,hhs⟩:∃ hs,hR S.E la n c va ln vc=hs:=⟨_,rfl⟩
 have hhz:hs.size=10:=by rw [← hhs];rfl
 rw [hhs] at hv0 hin
 obtain ⟨b1',b2,b3,hg⟩:=res_boxes (w:=w) cs
 obtain ⟨W0,hW0⟩:∃ W0,(((w.alloc (.cells cs 36)).alloc (.cells sZ 36)).alloc (.cells #[.int .i64 0,.int .u64 0,.int .u64 0] 46))=W0:=⟨_,rfl⟩
 rw [hW0] at b1' b2 b3 hg
 have htk:=rtk_all (w:=W0) (base:=base) hF hK (fun g e=>Nat.lt_of_lt_of_le (hFb g e) hg.size) (hv0.later hg) (Nat.le_trans hbw hg.size) o m a ho hm ha
 have HIN:=Lib.hid hin
 have HHP:=Lib.hid hhp
 have hb3l:=lt_of_block b3
 obtain ⟨er,eer⟩:∃ q,Yax S.bs m a=q:=⟨_,rfl⟩
 obtain ⟨off,eoff⟩:∃ q,mtP S.bs m a=q:=⟨_,rfl⟩
 rw [eer,eoff] at htk
 rw [eer] at hsm
 rw [eer,eoff]
 have hFR:∀ {w1:World},W0.grownBy w1 none→w1.heap[w.heap.size]?=some (.cells cs 36 (0,0))∧w1.heap[w.heap.size+1]?=some (.cells sZ 36 (0,0))∧w1.heap[w.heap.size+1+1]?=some (.cells #[.int .i64 0,.int .u64 0,.int .u64 0] 46 (0,0)):=fun {w1} g=>⟨(g.block _ (lt_of_block b1') (by simp)).trans b1',(g.block _ (lt_of_block b2) (by simp)).trans b2,(g.block _ (lt_of_block b3) (by simp)).trans b3⟩
 have HFR:=Lib.hid (fun (w1:World) (g:W0.grownBy w1 none)=>hFR g)
 clear hin hhp hv0 hhs hFR b2 b3
 unfold sZ at hW0
 by_cases he:er=0
 ·have hmm:=hsm he
  have hei:((er:Int) != 0)=false:=by simp [he]
  have hei':(er:Int)=0:=by omega
  have hpt:mTk S o m a={ S with bs:=mtB S.bs o m a,L:=mtL S.bs S.L o m a,ds:=putL S.ds off (sizN [] ((m+7) / 8)) }:=by
   unfold mTk mtB mtL
   rw [if_pos (by rw [eer];exact he),if_pos (by rw [eer];exact he),if_pos (by rw [eer];exact he),← eoff]
   unfold mtP
   rw [if_pos (by rw [eer];exact he)]
  rw [hpt]
  have hput:=fun (V:World) (da':Option Addr) (dn' dc':Nat) (d:List Nat) (hV:w.grownBy V none) (hd':OwnW V base (.slice da' dn' dc') d)=>rput14 (hd.later hV) hlD off hd'
  have hwd:=fun V=>rwords_any m hm V
  obtain ⟨kk,ekk⟩:∃ q,(m+7) / 8=q:=⟨_,rfl⟩
  have hkk:kk≤1000000:=by omega
  have hz:=fun V=>rsized14 (w:=V) (la:=none) (m:=0) (c:=0) (d:=[]) ⟨fun h=>absurd h (by decide)⟩ rfl (by decide) kk hkk
  replace hz:∀ V:World,Calls Tryz.prog 78 #[.slice none 0 0,.int .u64 kk] V fun e w'=>∃ v,e=.returned v∧OwnW w' V.heap.size v (sizN [] kk)∧V.grownBy w' none:=hz
  rw [ekk] at hwd ⊢
  obtain ⟨B',eB'⟩:∃ q,mtB S.bs o m a=q:=⟨_,rfl⟩
  obtain ⟨L',eL'⟩:∃ q,mtL S.bs S.L o m a=q:=⟨_,rfl⟩
  rw [eB',eL'] at htk ⊢
  have HPUT:=Lib.hid hput
  have HB:=Lib.hid hb
  clear eer eoff hsm hpt ekk eB' eL' hput he hmm hkk
  go_enter Tryz.func49,Tryz.ntmps49
  go_wp2_with (first
   | (refine Yad rfl 31 _ rfl _ 1 rfl b1' hs HIN.out _ Tryz.underlying31 rfl (by rw [Ybc,hhz]) ?_)
   | (go_at_call 76;(with_reducible refine htk.mono ?_);rintro e w1 ⟨v1,rfl,hv1,hg1⟩;obtain ⟨la',n',c',va',ln',vc',rfl,hb',hl'⟩:=hv_form hv1;have hh0:(hR S.E la' n' c' va' ln' vc').size=10:=rfl;have hh1:=hR_one (E:=S.E) (la:=la') (n:=n') (c:=c') (va:=va') (ln:=ln') (vc:=vc');have ho':=HHP.out S.E la' n' c' va' ln' vc';obtain ⟨ht,hht⟩:∃ ht,hR S.E la' n' c' va' ln' vc'=ht:=⟨_,rfl⟩;rw [hht] at hh0 hh1 ho';have b5:=Yab w1 (.cells #[.int .u64 0,.slice none 0 0,.slice none 0 0,.slice none 0 0,.slice none 0 0,.slice none 0 0,.slice none 0 0,.slice none 0 0,.slice none 0 0,.slice none 0 0] 31);have g5:=World.grownBy_alloc w1 (.cells #[.int .u64 0,.slice none 0 0,.slice none 0 0,.slice none 0 0,.slice none 0 0,.slice none 0 0,.slice none 0 0,.slice none 0 0,.slice none 0 0,.slice none 0 0] 31) none)
   | (refine Yae rfl 31 _ _ rfl _ 0 rfl rfl b5 (by rw [hh0];exact Nat.le_refl _) (by rw [Ybc,hh0]) hh1 ?_;intro W2 p5 g2;rw [Yau _ _ hh0] at p5;have G2:=Yap (Yaa (Yam g5 _) g2) (Nat.le_refl _);have GW2:=Yaa hg1 G2;obtain ⟨q1,q2,q3⟩:=HFR.out W2 GW2)
   | (refine Yad rfl 31 _ rfl _ 0 rfl p5 ht (fun j v hj=>by simpa using hj) _ Tryz.underlying31 rfl (by rw [Ybc,hh0]) ?_)
   | (refine Yae rfl 31 _ _ rfl _ 1 rfl rfl q1 (by rw [hh0,hs0];omega) (by rw [Ybc,hh0]) hh1 ?_;intro W3 p6 g3;rw [ho'] at p6;have G3:=Yaj (Yaa hg GW2) g3 (fun i hi=>.inl (by injection hi with hi;omega));have r2:=(g3.block _ (lt_of_block q2) (by simp)).trans q2;have r3:=(g3.block _ (lt_of_block q3) (by simp;omega)).trans q3))
  have hC:∀ V,W3.grownBy V none→V.heap[w.heap.size]?=some (.cells (sC all S.E la' n' c' va' ln' vc' da dn dc na nn nc S.lv) 36 (0,0)):=fun V g=>(g.block _ (lt_of_block p6) (by simp)).trans p6
  have HCX:=Lib.hid hC
  have HG:W3.grownBy W3.drew none:=Yah (Yag _ _)
  have c11:=Yas (hC _ HG) (show (sC all S.E la' n' c' va' ln' vc' da dn dc na nn nc S.lv)[11]?=some (.slice da dn dc) from rfl)
  have z11:=Ydw (hC _ HG) 11
  clear hC
  go_region_law (first
   | (go_simp;go_at_call 79;go_must ((with_reducible refine (hwd _).mono ?_);rintro e w4 ⟨rfl,rfl⟩))
   | (go_simp;go_at_call 78;go_must ((with_reducible refine (hz _).mono ?_);rintro e w5 ⟨v5,rfl,hv5,hg5⟩;have hbs:=HG.size;obtain ⟨xa,xn,xc,hx5⟩:=wv_form hv5;subst hx5;have hv5n:∀ g,(Value.slice xa xn xc).ownBlock=some g→¬ F g:=(fun g e k=>by have:=hFb g k;have:=(World.ownsRow.lt hv5 g e).1;have:=Nat.le_trans G3.size hbs;omega);have hv5':=hv5.mono (Nat.le_trans hbw (Nat.le_trans G3.size hbs));replace HG:=Yaa HG hg5;have c11:=Yas (HCX.out _ HG) (show (sC all S.E la' n' c' va' ln' vc' da dn dc na nn nc S.lv)[11]?=some (.slice da dn dc) from rfl);have z11:=Ydw (HCX.out _ HG) 11))
   | (go_simp;go_at_call 77;go_must ((with_reducible refine (HPUT.out _ xa xn xc _ (Yaa G3 HG) hv5').mono ?_);rintro e w6 ⟨v6,rfl,hv6,hg6⟩;obtain ⟨ua,uc,hx6⟩:=hv6.form;obtain ⟨um,hum⟩:∃ q,(drpD lD off++[(off,Value.slice xa xn xc,sizN [] kk)]).length=q:=⟨_,rfl⟩;rw [hum] at hx6;subst hx6;have HG5:=HG;replace HG:=Yaa HG hg6;have c11:=Yas (HCX.out _ HG) (show (sC all S.E la' n' c' va' ln' vc' da dn dc na nn nc S.lv)[11]?=some (.slice da dn dc) from rfl);have z11:=Ydw (HCX.out _ HG) 11)))
  all_goals (
   have p7:=Yb7 (k:=11) (v:=.slice ua um uc) (HCX.out _ HG)
   rw [sC_data] at p7
   have g7:=Yac w6 w.heap.size 11 (.slice ua um uc)
   have s2:=(HG.block _ (lt_of_block r2) (by simp)).trans r2
   have s3:=(HG.block _ (lt_of_block r3) (by simp)).trans r3
   have r7:=(g7.block _ (lt_of_block s2) (by simp)).trans s2
   have r8:=(g7.block _ (lt_of_block s3) (by simp;omega)).trans s3
   have R1:Rows4 w1 F base la' n' c' va' ln' vc' B' L' da dn dc lD na nn nc S.nm:=⟨hb',hl',hd.later (Yaa hg hg1),hn.later (Yaa hg hg1),hf⟩
   have R6:=((R1.later G2).past g3 q1 Ybt).later HG
   have R7:Rows4 w6 F base la' n' c' va' ln' vc' B' L' ua um uc (drpD lD off++[(off,Value.slice xa xn xc,sizN [] kk)]) na nn nc S.nm:=⟨R6.b,R6.l,hv6.mono (Nat.le_trans hbw (Nat.le_trans G3.size HG5.size)) (Nat.le_refl _),R6.n,fun t ht=>by
    rcases List.mem_append.1 ht with h1|h1
    ·exact R6.f t (List.mem_filter.1 h1).1
    ·rw [List.mem_singleton.1 h1];exact hv5n⟩
   have G6:=Yaa G3 HG
   have HP6:=HCX.out _ HG
   clear c11 z11 HCX HPUT hz hwd HFR HB hb hl hd hn hb' hl' R1 R6 htk HIN HHP
   go_wp2_with (first
    | (refine Yad rfl 36 _ rfl _ 0 rfl p7 (sC all S.E la' n' c' va' ln' vc' ua um uc na nn nc S.lv) (fun j v hj=>by simpa using hj) _ Tryz.underlying36 rfl Yai ?_)
    | (refine Yae (ps:=sC all S.E la' n' c' va' ln' vc' ua um uc na nn nc S.lv) rfl 36 _ _ rfl _ 0 rfl rfl r7 (Nat.le_refl 21) Yai sC_one ?_;intro W9 p9 g9;rw [ovr_st] at p9;have q4:=(g9.block _ (lt_of_block r8) (by simp)).trans r8;obtain ⟨y0,y1,y2⟩:=Yaf q4;obtain ⟨z0,z1,z2⟩:=Yak q4))
   have q5:=Yaz q4 (x':=.int .i64 0) (y':=.int .u64 off) (z':=.int .u64 0)
   have g4:W9.grownBy (((W9.setCell ⟨w.heap.size+1+1,0,none⟩ (.int .i64 0)).setCell ⟨w.heap.size+1+1,1,none⟩ (.int .u64 off)).setCell ⟨w.heap.size+1+1,2,none⟩ (.int .u64 0)) (some (w.heap.size+1+1)):=Yaa (Yac _ _ _ _) (Yaa (Yac _ _ _ _) (Yac _ _ _ _))
   have q6:=(g4.block _ (lt_of_block p9) (by simp)).trans p9
   refine bodyPost_ret (Yav rfl _ rfl rfl q6 q5 Tryz.underlying36 rfl Yai Tryz.underlying46 rfl Ya0) rfl ?_
   have G9:=Yaj (Yaj (Yaj G6 g7 (fun i hi=>.inl (by injection hi with hi;omega))) g9 (fun i hi=>.inl (by injection hi with hi;omega))) g4 (fun i hi=>.inl (by injection hi with hi;omega))
   have R9:=((R7.past g7 HP6 Ybt).past g9 r7 Ybt).past g4 q4 boxRs
   exact ⟨_,by rw [hei'],⟨la',n',c',va',ln',vc',ua,um,uc,na,nn,nc,_,rfl,R9.b,R9.l,R9.d,by rw [plainD_put,hpl],R9.n,R9.f⟩,G9⟩)
 ·have hne:((er:Int) != 0)=true:=by simp;omega
  have hne':¬ (er:Int)=0:=by omega
  have hmt:mTk S o m a=S:=by unfold mTk;rw [if_neg (by rw [eer];exact he)]
  rw [hmt]
  have hbb:mtB S.bs o m a=S.bs∧mtL S.bs S.L o m a=S.L:=by unfold mtB mtL;rw [if_neg (by rw [eer];exact he),if_neg (by rw [eer];exact he)];exact ⟨rfl,rfl⟩
  have hoff:off=0:=by rw [← eoff];unfold mtP;rw [if_neg (by rw [eer];exact he)]
  clear eer eoff hsm hmt
  go_enter Tryz.func49,Tryz.ntmps49
  go_wp2_with (first
   | (refine Yad rfl 31 _ rfl _ 1 rfl b1' hs HIN.out _ Tryz.underlying31 rfl (by rw [Ybc,hhz]) ?_)
   | (go_at_call 76;(with_reducible refine htk.mono ?_);rintro e w1 ⟨v1,rfl,hv1,hg1⟩;obtain ⟨la',n',c',va',ln',vc',rfl,hb',hl'⟩:=hv_form hv1;have hh0:(hR S.E la' n' c' va' ln' vc').size=10:=rfl;have hh1:=hR_one (E:=S.E) (la:=la') (n:=n') (c:=c') (va:=va') (ln:=ln') (vc:=vc');obtain ⟨ht,hht⟩:∃ ht,hR S.E la' n' c' va' ln' vc'=ht:=⟨_,rfl⟩;rw [hht] at hh0 hh1;have b5:=Yab w1 (.cells #[.int .u64 0,.slice none 0 0,.slice none 0 0,.slice none 0 0,.slice none 0 0,.slice none 0 0,.slice none 0 0,.slice none 0 0,.slice none 0 0,.slice none 0 0] 31);have g5:=World.grownBy_alloc w1 (.cells #[.int .u64 0,.slice none 0 0,.slice none 0 0,.slice none 0 0,.slice none 0 0,.slice none 0 0,.slice none 0 0,.slice none 0 0,.slice none 0 0,.slice none 0 0] 31) none)
   | (refine Yae rfl 31 _ _ rfl _ 0 rfl rfl b5 (by rw [hh0];exact Nat.le_refl _) (by rw [Ybc,hh0]) hh1 ?_;intro W2 p5 g2;have G2:=Yap (Yaa (Yam g5 _) g2) (Nat.le_refl _);obtain ⟨q1,q2,q3⟩:=HFR.out W2 (Yaa hg1 G2))
   | (refine Yad rfl 36 _ rfl _ 0 rfl q1 cs (fun j v hj=>by simpa using hj) _ Tryz.underlying36 rfl (by rw [Yai,hs0]) ?_)
   | (refine Yae rfl 36 _ _ rfl _ 0 rfl rfl q2 (by rw [hs0];exact Nat.le_refl _) (by rw [Yai,hs0]) hs1 ?_;intro W3 p6 g3;rw [Yau _ _ hs0] at p6;have q4:=(g3.block _ (lt_of_block q3) (by simp)).trans q3;obtain ⟨y0,y1,y2⟩:=Yaf q4;obtain ⟨z0,z1,z2⟩:=Yak q4))
  have q5:=Yaz q4 (x':=.int .i64 er) (y':=.int .u64 0) (z':=.int .u64 0)
  have g4:W3.grownBy (((W3.setCell ⟨w.heap.size+1+1,0,none⟩ (.int .i64 er)).setCell ⟨w.heap.size+1+1,1,none⟩ (.int .u64 0)).setCell ⟨w.heap.size+1+1,2,none⟩ (.int .u64 0)) (some (w.heap.size+1+1)):=Yaa (Yac _ _ _ _) (Yaa (Yac _ _ _ _) (Yac _ _ _ _))
  have q6:=(g4.block _ (lt_of_block p6) (by simp)).trans p6
  refine bodyPost_ret (Yav rfl _ rfl rfl q6 q5 Tryz.underlying36 rfl (by rw [Yai,hs0]) Tryz.underlying46 rfl Ya0) rfl ?_
  have G9:=Yaj (Yaj (Yaa hg (Yaa hg1 G2)) g3 (fun i hi=>.inl (by injection hi with hi;omega))) g4 (fun i hi=>.inl (by injection hi with hi;omega))
  exact ⟨.agg cs,by rw [hoff];rfl,⟨la,n,c,va,ln,vc,da,dn,dc,na,nn,nc,lD,by rw [hcs],hb.later G9,fun k hk=>(hl k hk).later G9,hd.later G9,hpl,hn.later G9,hf⟩,G9⟩
end
end
section
theorem info_int1:(Tryz.prog.info? 3).map (·.size)=some 1:=by kernel_rfl
theorem info_bsl:(Tryz.prog.info? 27).map (·.size)=some 1:=by kernel_rfl
section
variable {w w' W:World} {base all K:Nat} {v:Value} {S:MS}
theorem state_boxes (cs:Array Value):((w.alloc (.cells cs 36)).alloc (.cells sZ 36)).heap[w.heap.size]?=some (.cells cs 36 (0,0)) ∧
  ((w.alloc (.cells cs 36)).alloc (.cells sZ 36)).heap[w.heap.size+1]?=some (.cells sZ 36 (0,0))∧w.grownBy ((w.alloc (.cells cs 36)).alloc (.cells sZ 36)) none:=by
 have h1:=Yab w (.cells cs 36)
 have h2:=Yab (w.alloc (.cells cs 36)) (.cells sZ 36)
 simp only [World.size_alloc] at h2
 have g1:=World.grownBy_alloc w (.cells cs 36) none
 have g2:=World.grownBy_alloc (w.alloc (.cells cs 36)) (.cells sZ 36) none
 exact ⟨(g2.block _ (lt_of_block h1) (by simp)).trans h1,h2,Yaa g1 g2⟩
theorem Ybd {ops:Array Oper} {rest:List Oper} {op:Oper} {a:Act} {Q:Exit→Act→World→Prop} (hgd:op.guard=none) (ty:TypeId) (x y:Operand) (ho:op.op=.store ty x y)
  (b o:Nat) {u:Value} {cs:Array Value} {t:TypeId} (hx:a.eval x=.pointer (some ⟨b,o,none⟩)) (hy:a.eval y=u) (hb:w.heap[b]?=some (.cells cs t (0,0))) (hs:o<cs.size)
  (hi:(Tryz.prog.info? ty).map (·.size)=some 1) (h1:u.oneCell'=true)
  (h:∀ w',w'.heap[b]?=some (.cells (cs.setIfInBounds o u) t (0,0))→w.grownBy w' (some b)→wpList Tryz.prog ops Q rest (a.put op.dst undef) w'):wpList Tryz.prog ops Q (op::rest) a w:=by
 have hrun:(storeVar ty ⟨b,o,none⟩ u).run Tryz.prog w=.ok () (w.setCell ⟨b,o,none⟩ u):=by
  have e:cs[o]?=some cs[o]:=Array.getElem?_eq_getElem hs
  have h2:=run_storeCells_cells (P:=Tryz.prog) b o [u] 0 w (fun j hj=>by
   have hj0:j=0:=by simpa using hj
   subst hj0
   exact (congrArg Option.isSome (Yas hb e)).trans rfl) (fun j hj=>Ydw hb _) (fun z hz=>by rw [List.mem_singleton.1 hz];exact h1)
  have hc:u.cells=#[u]:=by cases u <;> first|rfl|cases h1
  cases hq:Tryz.prog.info? ty with
  | none=>simp [hq] at hi
  | some i =>
   have hs:i.size=1:=by simpa [hq] using hi
   simp only [Nat.add_zero] at h2
   simp [storeVar,sizeOf,typeInfo,hq,hc,hs,h2,World.setCells]
 refine wpList_plain hgd fun _ hK=>?_
 unfold Oper.wp execOp
 simp only [ho,hx,hy,Instr.storeAt,Instr.sureAddr,Sem.run_bind,Sem.run_pure,Result.andThen_ok,hrun]
 exact hK _ _ (h _ (Yb7 hb) (Yac _ _ _ _))
theorem Yec:(Tryz.prog.info? 81).map (·.size)=some 5:=by kernel_rfl
def bkC (q:Blk):Array Value:=#[.int .u64 (q.off:Nat),.int .u64 (q.s:Nat),.bool q.u,.int .i64 q.o,.int .u64 (q.n:Nat)]
theorem bkC_one {q:Blk}:(bkC q).all (·.oneCell')=true:=by simp [bkC,Value.oneCell']
theorem Ydb {ops:Array Oper} {rest:List Oper} {op:Oper} {a:Act} {Q:Exit→Act→World→Prop} (hgd:op.guard=none) (x y:Operand) (ho:op.op=.store 81 x y)
  {g i n cap:Nat} {A C:List Blk} {p q:Blk} (hx:a.eval x=.pointer (some ⟨g,i*5,none⟩)) (hy:a.eval y=.agg (bkC q)) (hown:OwnB w base 81 (.slice (some ⟨g,0,none⟩) n cap) (A++p::C)) (hn:(A++p::C).length=n) (hk:A.length=i)
  (h:∀ w',OwnB w' base 81 (.slice (some ⟨g,0,none⟩) n cap) (A++q::C)→w.grownBy w' (some g)→wpList Tryz.prog ops Q rest (a.put op.dst undef) w'):wpList Tryz.prog ops Q (op::rest) a w:=by
 obtain ⟨g',c',e,_,_,hfz,hat⟩:=hown.spot (by rw [List.length_append,List.length_cons];omega)
 injection e with e1 e2 e3
 injection e1 with e1
 injection e1 with e1
 subst e1
 obtain ⟨z0,z1,z2,z3,z4⟩:=hat i (by rw [← hk,List.length_append,List.length_cons];omega)
 have ht:w.there g (i*5) (bkC q).size:=fun j hj=>by
  have hj:j<5:=hj
  refine ⟨?_,hfz _⟩
  rcases (show j=0∨j=1∨j=2∨j=3∨j=4 by omega) with rfl|rfl|rfl|rfl|rfl
  ·rw [Nat.add_zero,z0];rfl
  ·rw [z1];rfl
  ·rw [z2];rfl
  ·rw [z3];rfl
  ·rw [z4];rfl
 refine wpList_store_mid hgd 81 x y ho g (i*5) (bkC q) hx hy ht Yec (by simp [bkC,Value.oneCell']) ?_
 exact h _ (ownB_put q hown hn hk) (Yd3 _ _ _ _ _ _ _ _)
end
theorem Yet {w:World} {fn:Func} {p q:Tmp} {ty t:TypeId} {x:Value} (h:fn.results=#[.cell p ty,.tmp q]) (tmps:Array Value) {g:Nat} {cs:Array Value} {d:TypeDesc}
  (hp:tmps.getD p undef=.pointer (some ⟨g,0,none⟩)) (hq:tmps.getD q undef=x) (hg:w.heap[g]?=some (.cells cs t (0,0)))
  (hu:Tryz.prog.underlying ty=some d) (hd:d.isRow=true) (hi:(Tryz.prog.info? ty).map (·.size)=some cs.size) :
  (results fn tmps).run Tryz.prog w=.ok (.tuple #[.agg cs,x]) w:=by
 have hp':tmps[p]?.getD undef=.pointer (some ⟨g,0,none⟩):=by simpa using hp
 have hq':tmps[q]?.getD undef=x:=by simpa using hq
 have l1:=run_loadVar_mid w g 0 ty cs.toList d (fun j v hj=>by rw [Nat.zero_add];exact Yas hg (by simpa using hj)) hu hd (by simpa using hi)
 rw [Array.toArray_toList] at l1
 simp [results,h,hp',hq',asAddr,l1]
theorem info_wd1:(Tryz.prog.info? 26).map (·.size)=some 1:=by kernel_rfl
end
section
theorem ownW_lit1 (V:World) (q:Nat):OwnW (V.alloc (.cells #[.int .u64 (q:Nat)] 26)) V.heap.size (.slice (some ⟨V.heap.size,0,none⟩) 1 1) [q]:=by
 have:=World.ownsRow_lit (base:=V.heap.size) (e:=26) (size:=1) V #[.int .u64 (q:Nat)] 1 (Nat.le_refl _) (by decide) rfl
 unfold OwnW
 exact this
theorem Yep {w2:World} {base m c:Nat} {v:Value} {xs ys:List Nat} {la:Option Addr} (hown:OwnW w2 base v xs) (hp:Yb1 w2 la ys) (hy:ys.length=m) (hm:xs.length+m≤1000000) (hbase:base≤w2.heap.size)
  {ops:Array Oper} {o:Oper} {a:Act} {K:Act→World→Prop} {Q:Exit→Act→World→Prop} {E:Prop} (hgd:o.guard=none) (s x:Operand)
  (ho:o.op=.call { callee:=.builtin .append,args:=#[s,x],argTypes:=#[28,28] })
  (hs:a.eval s=v) (hx:a.eval x=.slice la m c)
  (h:∀ v' w',OwnW w' base v' (xs++ys)→w2.grownBy w' v.ownBlock→K (a.put o.dst v') w') :
  if Region.wanted o (yielded ops a.tmps)=true then Oper.wp Tryz.prog o a w2 K Q else E:=by
 subst hy
 obtain ⟨i0,hi,hz0,hz1,hz2⟩:=info_parts info_u64
 have hwt:Region.wanted o (yielded ops a.tmps)=true:=by simp [Region.wanted,hgd]
 rw [if_pos hwt]
 have hlen:(Ybi ys).length=ys.length*1:=by simp [Ybi]
 have hfin:∀ v' w',w'.ownsRow base 26 1 v' (xs.length+ys.length) (Ybi xs++Ybi ys)→OwnW w' base v' (xs++ys):=fun v' w' h=>by
  unfold OwnW
  rw [List.length_append]
  simpa [Ybi] using h
 rcases la with _|ad
 ·have hm0:ys=[]:=by
   rcases Nat.eq_zero_or_pos ys.length with h0|h0
   ·exact List.length_eq_zero_iff.1 h0
   ·obtain ⟨b,off,hb,_⟩:=hp.cells h0
    cases hb
  subst hm0
  have hrun:=run_append_null (P:=Tryz.prog) (w:=w2) base 28 o.type 26 i0 1 c Tryz.underlying28 hi v xs.length (Ybi xs) hown
  unfold Oper.wp execOp
  simp only [List.length_nil] at hx
  simp only [ho,resolve,invoke,builtin,Sem.run_bind,Sem.run_pure,Result.andThen_ok,List.map_toArray,List.map_cons,List.map_nil,hs,hx,hrun]
  exact h v w2 (by simpa using hown) (Yag _ _)
 ·obtain ⟨v',w',hr,h2,h3,_,h5⟩:=run_append_own_at (P:=Tryz.prog) w2 base 28 o.type 26 i0 (.int .u64 0) 1 8 Tryz.underlying28 hi hz0 hz1 hz2 rfl (by decide) v xs.length (Ybi xs) hown ad ys.length c (Ybi ys) hlen (fun j u hj=>by
   have hjm:j<ys.length:=by
    rcases Nat.lt_or_ge j ys.length with h'|h'
    ·exact h'
    ·rw [List.getElem?_eq_none (by rw [hlen];omega)] at hj;cases hj
   obtain ⟨b,off,hb,_,hcs⟩:=hp.cells (by omega)
   injection hb with hb
   subst hb
   have hadd:(⟨b,off,none⟩:Addr).add j=⟨b,off+j,none⟩:=by unfold Addr.add;split <;> simp_all
   rw [hadd,hcs j hjm,← hj]
   simp [Ybi,List.getElem?_eq_getElem hjm]) (fun u hu=>by
   simp only [Ybi,List.mem_map] at hu
   obtain ⟨y,_,rfl⟩:=hu
   rfl) (by unfold maxLen;omega) (by omega) hbase
  unfold Oper.wp execOp
  simp only [ho,resolve,invoke,builtin,Sem.run_bind,Sem.run_pure,Result.andThen_ok,List.map_toArray,List.map_cons,List.map_nil,hs,hx,hr]
  exact h v' w' (hfin _ _ h2) h3
end
end Go.Proofs.YtfhiljglfhekdaaGreat
