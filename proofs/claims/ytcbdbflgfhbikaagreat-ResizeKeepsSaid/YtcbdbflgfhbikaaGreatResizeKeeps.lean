/-
  What a block had it has still, as far as it goes, and what is new is 0; all others' words stay. The statement ResizeKeeps; no condition.
-/
import Derived.Test.YtcbdbflgfhbikaaGreatLRse
import Derived.Test.YtcbdbflgfhbikaaGreatResR
import Derived.Test.YtcbdbflgfhbikaaGreatResK
import Derived.Laws.StructEq
import Derived.BigQuiet
import Derived.Deep.RegionHeld3
namespace Go.Proofs.YtcbdbflgfhbikaaGreat.resizeKeeps
open Go.ChangeShapes Go.WideShapes Go.ChangeAt Go.RowKit
set_option linter.unusedVariables false
set_option linter.unusedSimpArgs false
set_option maxRecDepth 100000

/-- A Tx whose words are so, and two boxes beside it. -/
def KpS (w1:World) (T E ab ob:Nat) (A O:Obj) (bs:List Blk) (L:Nat→List Nat) (Q:(Nat→Nat)→Prop) (wr:World):Prop :=
 ∃ R f,HF w1 wr T R (fmt48 4480) E bs L f∧Q f∧wr.heap[ab]?=some A∧wr.heap[ob]?=some O
theorem rz_bad3 {bs:List Blk} {p i n:Nat} (hf:fstN (pF p) bs=some i) (hn:n<600) (h0:rzE bs p n≠0):rzE bs p n=3∧rzP bs p n=0:=by
 have h18:¬ 18446744073709551560<n:=by omega
 unfold rzE at h0 ⊢
 unfold rzP
 rw [hf] at h0 ⊢
 dsimp only at h0 ⊢
 rw [if_neg h18] at h0 ⊢
 rw [if_neg h18]
 by_cases hle:needOf n≤gS bs i
 ·rw [if_pos hle] at h0;exact absurd rfl h0
 ·rw [if_neg hle] at h0 ⊢
  rw [if_neg hle]
  unfold tkE at h0 ⊢
  unfold tkP
  cases hq:fitM bs n 16 with
  | none=>exact ⟨rfl,rfl⟩
  | some j=>rw [hq] at h0;exact absurd rfl h0
set_option maxHeartbeats 16000000 in
theorem core {w:World} {la:Option Addr} {n c:Nat} {X O A N:Nat→Nat} (hp:DoneAt w la n X O A N) (hn:n≤maxLen) {a m:Nat} (ha:a<256) (hm:m<65536) :
  Calls Tryz.prog 4 #[.slice la n c,.int .u8 a,.int .u16 m] w fun e w'=>e=.returned (.bool true)∧w.grownBy w' none:=by
 obtain ⟨E,bs,L,hE,hpl⟩:=plays12 (c:=c) hp hn
 have wa:IntKind.i64.wrap (a:Int)=(a:Nat):=by rw [IntKind.wrap_i64];omega
 have wa1:IntKind.i64.wrap ((a:Int)+1)=((a+1:Nat):Int):=by rw [IntKind.wrap_i64];omega
 have hpay:=fun (V W:World) (T:Nat) (R R':Option Nat) (v:Value) (h:HW V W T R (fmt48 4480) E bs L) (hv:HvK W R' V.heap.size v E bs L)=>rpayload10_any hv.is (by have:=hw_few600 h;omega) (hw_bounds h) a (by omega)
 have hpay':=fun (V W:World) (T:Nat) (R R':Option Nat) (v:Value) (h:HW V W T R (fmt48 4480) E bs L) (hv:HvK W R' V.heap.size v E bs L)=>rpayload10_any hv.is (by have:=hw_few600 h;omega) (hw_bounds h) (a+1) (by omega)
 obtain ⟨a1,ea1⟩:∃ a1,a+1=a1:=⟨_,rfl⟩
 rw [ea1] at wa1 hpay'
 by_cases hu:usedB bs=[]
 ·obtain ⟨hp0,hf⟩:=pay_none a hu
  rw [hp0] at hpay
  have hpay:∀ (V W:World) (T:Nat) (R R':Option Nat) (v:Value),HW V W T R (fmt48 4480) E bs L→HvK W R' V.heap.size v E bs L→Calls Tryz.prog 13 #[v,.int .i64 a] W fun e w'=>e=.returned (.int .u64 0)∧W.grownBy w' none:=hpay
  have hfd:∀ (V W:World) (T:Nat) (R:Option Nat),HW V W T R (fmt48 4480) E bs L→Calls Tryz.prog 14 #[.pointer (some ⟨T,0,none⟩),.int .u64 0] W fun e w'=>e=.returned (.tuple #[.agg #[.int .u64 0,.int .u64 0,.bool false,.int .i64 0,.int .u64 0],.bool false])∧W.grownBy w' none:=fun V W T R h=>hw_find_none h hf
  clear hE hu hp0 hf hpay' ea1 wa1
  go_enter Tryz.func4,Tryz.ntmps4
  go_wp2_with (first
   | (go_at_call 8;((with_reducible refine (awake12 _).mono ?_);rintro e w1 ⟨rfl,hg1⟩))
   | (go_at_call 9;((with_reducible refine (hpl _ hg1).mono ?_);rintro e w2 ⟨T,R,l1,n1,c1,va,ln,vc,rfl,H2,V2,hn1⟩;replace hn1:=Lib.hid hn1;have ga2:=World.grownBy_alloc w2 (.cells (hC E l1 n1 c1 va ln vc) 30) none;have HB2:=Lib.hid (heap_alloc_new' w2 (.cells (hC E l1 n1 c1 va ln vc) 30));have H3:=H2.later ga2;have V3:=V2.later ga2;obtain ⟨⟨d0,d1,d2,d3,d4,d5,d6,d7,d8,d9⟩,_⟩:=ten_cells HB2.out;have hpay1:=hpay _ _ _ _ _ _ H3 V3))
   | (go_at_call 13;((with_reducible refine hpay1.mono ?_);rintro e4 w4 ⟨rfl,hg4⟩;have hfd1:=hfd _ _ _ _ (H3.later hg4)))
   | (go_at_call 14;((with_reducible refine hfd1.mono ?_);rintro e5 w5 ⟨rfl,hg5⟩)))
  go_ret
  exact ⟨rfl,grown_trans hg1 (grown_trans H3.since (grown_trans hg4 (grown_trans hg5 (World.grownBy_alloc _ _ _))))⟩
 ·obtain ⟨p,hp'⟩:∃ p,payB bs a=p:=⟨_,rfl⟩
  obtain ⟨o,ho'⟩:∃ o,payB bs a1=o:=⟨_,rfl⟩
  rw [hp'] at hpay
  rw [ho'] at hpay'
  have hno:(fstN (pF p) bs=none∨fstN (pF o) bs=none)→∀ (V W:World) (T:Nat) (R:Option Nat),HW V W T R (fmt48 4480) E bs L→False:=fun hq V W T R h=>by
   rcases hq with hq|hq
   ·exact hw_there h hu (by rw [hp'];exact hq)
   ·exact hw_there h hu (by rw [ho'];exact hq)
  by_cases hqq:fstN (pF p) bs=none∨fstN (pF o) bs=none
  ·have hno':=hno hqq
   clear hE hu hp' ho' hno hqq ea1
   go_enter Tryz.func4,Tryz.ntmps4
   go_wp2_with (first
    | (go_at_call 8;((with_reducible refine (awake12 _).mono ?_);rintro e w1 ⟨rfl,hg1⟩))
    | (go_at_call 9;((with_reducible refine (hpl _ hg1).mono ?_);rintro e w2 ⟨T,R,l1,n1,c1,va,ln,vc,rfl,H2,V2,hn1⟩;replace hn1:=Lib.hid hn1;have ga2:=World.grownBy_alloc w2 (.cells (hC E l1 n1 c1 va ln vc) 30) none;have HB2:=Lib.hid (heap_alloc_new' w2 (.cells (hC E l1 n1 c1 va ln vc) 30));have H3:=H2.later ga2;have V3:=V2.later ga2;obtain ⟨⟨d0,d1,d2,d3,d4,d5,d6,d7,d8,d9⟩,_⟩:=ten_cells HB2.out;exact (hno' _ _ _ _ H3).elim)))
  ·obtain ⟨i,hf⟩:∃ i,fstN (pF p) bs=some i:=by
    cases e:fstN (pF p) bs with
    | none=>exact absurd (.inl e) hqq
    | some i=>exact ⟨i,rfl⟩
   obtain ⟨i2,hf2⟩:∃ i,fstN (pF o) bs=some i:=by
    cases e:fstN (pF o) bs with
    | none=>exact absurd (.inr e) hqq
    | some i=>exact ⟨i,rfl⟩
   clear hqq hno hp' ho' hu ea1
   obtain ⟨hi,hbu,hbp⟩:=pF_some hf
   obtain ⟨hi2,hcu,hcp⟩:=pF_some hf2
   have hp64:p<18446744073709551616:=by omega
   have hfa:=fun (V W:World) (T:Nat) (R:Option Nat) (h:HW V W T R (fmt48 4480) E bs L)=>hw_find_some h hf
   have hfc:=fun (V W:World) (T:Nat) (R:Option Nat) (h:HW V W T R (fmt48 4480) E bs L)=>hw_find_some h hf2
   have hmb:=getB_mem hi
   have hmc:=getB_mem hi2
   have hgn:gN bs i=(bs.getD i default).n:=rfl
   have hgw:gW bs i=(bs.getD i default).o:=rfl
   obtain ⟨b,hb⟩:∃ b,bs.getD i default=b:=⟨_,rfl⟩
   obtain ⟨d,hd⟩:∃ d,bs.getD i2 default=d:=⟨_,rfl⟩
   rw [hb] at hbu hbp hmb hgn hgw
   rw [hd] at hcu hcp hmc
   simp only [hb] at hfa
   simp only [hd] at hfc
   have hbd:∀ (V W:World) (T:Nat) (R:Option Nat),HW V W T R (fmt48 4480) E bs L→(p=b.off+32∧b.n+40≤b.s∧b.off+b.s≤4480∧b.s % 16=0∧b.off % 16=0)∧(o=d.off+32∧d.n+40≤d.s∧d.off+d.s≤4480∧d.s % 16=0∧d.off % 16=0)∧(o≠p→b.off+b.s≤d.off∨d.off+d.s≤b.off):=fun V W T R h=>by
    obtain ⟨_,_,_,_,_,_,hs⟩:=h
    have h1:=hs.told.is _ hmb
    have h2:=hs.told.is _ hmc
    have l1:=h1.len
    have l2:=h2.len
    rw [if_pos hbu] at l1
    rw [if_pos hcu] at l2
    have p1:=hs.pay hf
    have p2:=hs.pay hf2
    rw [hb] at p1
    rw [hd] at p2
    refine ⟨⟨p1,l1.2,by rw [hE];exact h1.hi,h1.size.2,h1.al⟩,⟨p2,l2.2,by rw [hE];exact h2.hi,h2.size.2,h2.al⟩,fun hne=>hs.told.sep hmb hmc fun e=>hne (by omega)⟩
   have t600:(m:Int).tmod 600=((m % 600:Nat):Int):=by rw [Int.tmod_eq_emod_of_nonneg (by omega)];omega
   have b600:m % 600<600:=Nat.mod_lt _ (by decide)
   obtain ⟨m6,em6⟩:∃ m6,m % 600=m6:=⟨_,rfl⟩
   rw [em6] at t600 b600
   have w600:IntKind.u64.wrap (m6:Int)=(m6:Nat):=by rw [IntKind.wrap_u64];omega
   obtain ⟨bo,bz,bu,ow,bn⟩:=b
   obtain ⟨co,cz,cu,cw,cn⟩:=d
   replace hbu:bu=true:=hbu
   replace hcu:cu=true:=hcu
   subst hbu hcu
   simp only at hbd hgn hgw
   simp only [Blk.val] at hfa hfc
   obtain ⟨na,hna⟩:∃ na,(bn+7) / 8=na:=⟨_,rfl⟩
   obtain ⟨nc,hnc⟩:∃ nc,(cn+7) / 8=nc:=⟨_,rfl⟩
   have hst:=fun (V W:World) (T:Nat) (R:Option Nat) (f:Nat→Nat) (x v:Nat) (h:HF V W T R (fmt48 4480) E bs L f) (h8:x % 8=0) (h1:bo+32≤x) (h2:x+8≤bo+bz - 8) (hv:v<18446744073709551616)=>hf_put h hmb rfl h8 h1 h2 hv
   have hst2:=fun (V W:World) (T:Nat) (R:Option Nat) (f:Nat→Nat) (x v:Nat) (h:HF V W T R (fmt48 4480) E bs L f) (h8:x % 8=0) (h1:co+32≤x) (h2:x+8≤co+cz - 8) (hv:v<18446744073709551616)=>hf_put h hmc rfl h8 h1 h2 hv
   have hrz:=fun (V W:World) (T:Nat) (R:Option Nat) (f:Nat→Nat) (h:HF V W T R (fmt48 4480) E bs L f)=>rz_hf h p m6 hp64 (by omega)
   have hkp:=fun (V W:World) (T:Nat) (R:Option Nat) (f f':Nat→Nat) (h:HF V W T R (fmt48 4480) E bs L f) (hw:RzW bs p m6 f f') (hP:∀ j,j<na→f (p+8*j)=1000+j)=>rz_keeps h.sound hf b600 hw (by rw [hgn];exact hna) hP
   have hot:=fun (V W:World) (T:Nat) (R:Option Nat) (f f':Nat→Nat) (q:Nat) (h:HF V W T R (fmt48 4480) E bs L f) (hw:RzW bs p m6 f f') (hne:co+32≠p) (h1:co+32≤q) (h2:q<co+cz - 8)=>rz_others h.sound hf hw hmc rfl hne h1 h2
   have hRZ:(∃ q:Nat,(∀ (V W:World) (T:Nat) (R:Option Nat) (f:Nat→Nat),HF V W T R (fmt48 4480) E bs L f→Calls Tryz.prog 10 #[.pointer (some ⟨T,0,none⟩),.int .u64 p,.int .u64 m6] W fun e w'=>e=.returned (.tuple #[.int .u64 (q:Nat),.int .i64 0])∧∃ R' f',HF V w' T R' (fmt48 4480) E (rzB bs p m6) (rzL bs L p m6) f'∧RzW bs p m6 f f'∧Keep W R w' R')∧(∀ (V W:World) (T:Nat) (R:Option Nat) (f f':Nat→Nat),HF V W T R (fmt48 4480) E bs L f→RzW bs p m6 f f'→(∀ j,j<na→f (p+8*j)=1000+j)→∃ b2,b2∈rzB bs p m6∧b2.u=true∧b2.o=ow∧(∀ j,j<(b2.n+7) / 8→f' (b2.off+32+8*j)=if j<na then 1000+j else 0)∧b2.off+32=q∧b2.n=m6))∨((∀ (V W:World) (T:Nat) (R:Option Nat) (f:Nat→Nat),HF V W T R (fmt48 4480) E bs L f→Calls Tryz.prog 10 #[.pointer (some ⟨T,0,none⟩),.int .u64 p,.int .u64 m6] W fun e w'=>e=.returned (.tuple #[.int .u64 0,.int .i64 3])∧∃ R' f',HF V w' T R' (fmt48 4480) E (rzB bs p m6) (rzL bs L p m6) f'∧RzW bs p m6 f f'∧Keep W R w' R')∧(∀ (V W:World) (T:Nat) (R:Option Nat) (f f':Nat→Nat),HF V W T R (fmt48 4480) E bs L f→RzW bs p m6 f f'→(∀ j,j<na→f (p+8*j)=1000+j)→∃ b2,b2∈rzB bs p m6∧b2.u=true∧b2.o=ow∧(∀ j,j<(b2.n+7) / 8→f' (b2.off+32+8*j)=if j<na then 1000+j else 0)∧b2.off+32=p∧b2=⟨bo,bz,true,ow,bn⟩)):=by
    by_cases h0:rzE bs p m6=0
    ·obtain ⟨q,hq⟩:∃ q,rzP bs p m6=q:=⟨_,rfl⟩
     rw [h0,hq] at hrz
     simp only [h0,hq] at hkp
     refine .inl ⟨q,hrz,fun V W T R f f' h1 h2 h3=>?_⟩
     obtain ⟨b2,m2,u2,o2,g2,y2⟩:=hkp V W T R f f' h1 h2 h3
     rcases y2 with ⟨_,j2,j3⟩|⟨j1,_⟩
     ·exact ⟨b2,m2,u2,o2.trans hgw,g2,j2,j3⟩
     ·exact absurd j1 (by decide)
    ·obtain ⟨h3,h4⟩:=rz_bad3 hf b600 h0
     rw [h3,h4] at hrz
     simp only [h3,h4,hb] at hkp
     refine .inr ⟨hrz,fun V W T R f f' h1 h2 h3=>?_⟩
     obtain ⟨b2,m2,u2,o2,g2,y2⟩:=hkp V W T R f f' h1 h2 h3
     rcases y2 with ⟨j1,_⟩|⟨_,_,j3,j4⟩
     ·exact absurd j1 (by decide)
     ·exact ⟨b2,m2,u2,o2.trans hgw,g2,j3,j4⟩
   have HRZ:=Lib.hid hRZ
   clear hE hgn hgw em6 hf hf2 hi hi2 hbp hcp hd hb hrz hkp hRZ
   go_enter Tryz.func4,Tryz.ntmps4
   go_wp2_with (first
    | (go_at_call 8;((with_reducible refine (awake12 _).mono ?_);rintro e w1 ⟨rfl,hg1⟩))
    | (go_at_call 9;((with_reducible refine (hpl _ hg1).mono ?_);rintro e w2 ⟨T,R,l1,n1,c1,va,ln,vc,rfl,H2,V2,hn1⟩;replace hn1:=Lib.hid hn1;have ga2:=World.grownBy_alloc w2 (.cells (hC E l1 n1 c1 va ln vc) 30) none;have HB2:=Lib.hid (heap_alloc_new' w2 (.cells (hC E l1 n1 c1 va ln vc) 30));have H3:=H2.later ga2;have V3:=V2.later ga2;obtain ⟨⟨d0,d1,d2,d3,d4,d5,d6,d7,d8,d9⟩,_⟩:=ten_cells HB2.out;have HBD:=Lib.hid (hbd _ _ _ _ H3);have hpay1:=hpay _ _ _ _ _ _ H3 V3;have hnwa:∀ V,Calls Tryz.prog 15 #[.int .u64 bn] V fun e w'=>e=.returned (.int .u64 (na:Nat))∧V=w':=(fun V=>by rw [← hna];exact rwords_any bn (by have:=HBD.out.1;omega) V);have hnwc:∀ V,Calls Tryz.prog 15 #[.int .u64 cn] V fun e w'=>e=.returned (.int .u64 (nc:Nat))∧V=w':=(fun V=>by rw [← hnc];exact rwords_any cn (by have:=HBD.out.2.1;omega) V)))
    | (go_at_call 13;((with_reducible refine hpay1.mono ?_);rintro e4 w4 ⟨rfl,hg4⟩;have H4:=H3.later hg4;have V4:=V3.later hg4;have hfa1:=hfa _ _ _ _ H4))
    | (go_at_call 14;((with_reducible refine hfa1.mono ?_);rintro e5 w5 ⟨rfl,hg5'⟩;have hg5:=grown_trans hg5' (World.grownBy_alloc w5 (.cells #[.int .u64 bo,.int .u64 bz,.bool true,.int .i64 ow,.int .u64 bn] 45) none);have HA5:=Lib.hid (heap_alloc_new' w5 (.cells #[.int .u64 bo,.int .u64 bz,.bool true,.int .i64 ow,.int .u64 bn] 45));have H5:=H4.later hg5;have V5:=V4.later hg5;have hpay2:=hpay' _ _ _ _ _ _ H5 V5;have B5:=((grown_trans hg4 hg5).block _ (lt_of_block HB2.out) (by simp)).trans HB2.out;obtain ⟨⟨d0,d1,d2,d3,d4,d5,d6,d7,d8,d9⟩,_⟩:=ten_cells B5;clear B5))
    | (go_at_call 13;((with_reducible refine hpay2.mono ?_);rintro e6 w6 ⟨rfl,hg6⟩;have H6:=H5.later hg6;have hfc1:=hfc _ _ _ _ H6))
    | (go_at_call 14;((with_reducible refine hfc1.mono ?_);rintro e7 w7 ⟨rfl,hg7'⟩;have hg7:=grown_trans hg7' (World.grownBy_alloc w7 (.cells #[.int .u64 co,.int .u64 cz,.bool true,.int .i64 cw,.int .u64 cn] 45) none);have HC7:=heap_alloc_new' w7 (.cells #[.int .u64 co,.int .u64 cz,.bool true,.int .i64 cw,.int .u64 cn] 45);have HA7:=((grown_trans hg6 hg7).block _ (lt_of_block HA5.out) (by simp)).trans HA5.out;obtain ⟨f7,F7⟩:=(H6.later hg7).see)))
   obtain ⟨W7,hW7⟩:∃ W7,w7.alloc (.cells #[.int .u64 co,.int .u64 cz,.bool true,.int .i64 cw,.int .u64 cn] 45)=W7:=⟨_,rfl⟩
   obtain ⟨ab,hab⟩:∃ x,w5.heap.size=x:=⟨_,rfl⟩
   obtain ⟨ob,hob⟩:∃ x,w7.heap.size=x:=⟨_,rfl⟩
   rw [hab] at HA7 ⊢
   rw [hob] at HC7 ⊢
   rw [hW7] at HA7 HC7 F7 ⊢
   have hn7:na≤1000∧nc≤1000:=by
    have h1:=HBD.out.1
    have h2:=HBD.out.2.1
    omega
   obtain ⟨hna7,hnc7⟩:=hn7
   have HG1:=Lib.hid hg1
   have HN:=Lib.hid (And.intro hna hnc)
   have S0:KpS w1 T E ab ob (.cells #[.int .u64 bo,.int .u64 bz,.bool true,.int .i64 ow,.int .u64 bn] 45) (.cells #[.int .u64 co,.int .u64 cz,.bool true,.int .i64 cw,.int .u64 cn] 45) bs L (fun f=>∀ j,j<0→f (p+8*j)=1000+j) W7:=⟨R,f7,F7,fun j hj=>absurd hj (Nat.not_lt_zero _),HA7,HC7⟩
   clear HB2 HA5 HA7 HC7 F7 H3 H4 H5 H6 V3 V4 V5 H2 V2 hg1 hg4 hg5 hg5' hg6 hg7 hg7' ga2 hW7 hab hob hpl hpay hpay' hpay1 hpay2 hfa hfc hfa1 hfc1 hbd hna hnc d0 d1 d2 d3 d4 d5 d6 d7 d8 d9
   go_loopw [17] (fun i wr=>∃ k:Nat,k≤na∧i=.int .u64 k∧KpS w1 T E ab ob (.cells #[.int .u64 bo,.int .u64 bz,.bool true,.int .i64 ow,.int .u64 bn] 45) (.cells #[.int .u64 co,.int .u64 cz,.bool true,.int .i64 cw,.int .u64 cn] 45) bs L (fun f=>∀ j,j<k→f (p+8*j)=1000+j) wr) (fun i _=>na - (intOf i).toNat)
   case atStart=>exact ⟨0,Nat.zero_le _,rfl,S0⟩
   case round =>
    obtain ⟨k,hk,rfl,R1,f1,F1,P1,A1,C1⟩:=hrel
    rename_i wr
    clear S0
    obtain ⟨c0,c1',c2,c3,c4⟩:=five_cells A1
    rcases Nat.lt_or_ge k na with h1|h1
    ·have h1':(k:Int)<(na:Int):=by omega
     have hna':=HN.out.1
     obtain ⟨hp1,hp2,hp3,hp4,hp5⟩:=HBD.out.1
     obtain ⟨x,hx⟩:∃ x,p+8*k=x:=⟨_,rfl⟩
     obtain ⟨v,hv⟩:∃ v,1000+k=v:=⟨_,rfl⟩
     have w8:IntKind.u64.wrap (8*(k:Int))=((8*k:Nat):Int):=by rw [IntKind.wrap_u64];omega
     obtain ⟨k8,hk8⟩:∃ k8,8*k=k8:=⟨_,rfl⟩
     rw [hk8] at w8 hx
     have wx:IntKind.u64.wrap ((p:Int)+(k8:Int))=(x:Nat):=by rw [IntKind.wrap_u64];omega
     have wv:IntKind.u64.wrap (1000+(k:Int))=(v:Nat):=by rw [IntKind.wrap_u64];omega
     have hs1:=hst _ _ _ _ _ x v F1 (by omega) (by omega) (by omega) (by omega)
     have hP2:∀ j,j<k+1→putF f1 x v (p+8*j)=1000+j:=fun j hj=>by
      unfold putF
      by_cases e:j=k
      ·rw [e,if_pos (by omega),hv]
      ·rw [if_neg (by omega)];exact P1 j (by omega)
     have HP2:=Lib.hid hP2
     have HA1:=Lib.hid A1
     have HC1:=Lib.hid C1
     clear hP2 P1 A1 C1 hx hv hk8 hna' hot hst2 hp1 hp2 hp3 hp4 hp5
     go_wp2_with (first
      | (go_at_call 15;((with_reducible refine (hnwa _).mono ?_);rintro e8 w8' ⟨rfl,rfl⟩))
      | (go_at_call 16;((with_reducible refine hs1.mono ?_);rintro e9 w9 ⟨rfl,R9,F9,K9⟩)))
     go_roundw
     case rel=>exact ⟨k+1,by omega,by go_num,R9,_,F9,HP2.out,K9.far HA1.out (by decide) (by decide),K9.far HC1.out (by decide) (by decide)⟩
     case measure=>simp [intOf];omega
    ·obtain rfl:k=na:=by omega
     have h1n:¬ (k:Int)<(k:Int):=by omega
     by_cases hop:o=p
     ·have HOP:=Lib.hid hop
      have eop:((o:Int) != (p:Int))=false:=by simp;omega
      clear hop
      have HA2:=Lib.hid A1
      have HC2:=Lib.hid C1
      have HP2:=Lib.hid P1
      have F2:=F1
      clear P1 A1 C1 hst hst2
      rcases HRZ.out with ⟨q,hrz,hkp⟩|⟨hrz,hkp⟩
      ·have hrz2:=hrz _ _ _ _ _ F2
       go_wp2_with (first
        | (go_at_call 15;((with_reducible refine (hnwa _).mono ?_);rintro e8 w8' ⟨rfl,rfl⟩))
        | (go_at_call 10;((with_reducible refine hrz2.mono ?_);rintro e10 w10 ⟨rfl,R10,f10,F10,Z10,K10⟩;obtain ⟨b2,m2,u2,o2,g2,y2⟩:=hkp _ _ _ _ _ _ F2 Z10 (HP2.out);have hfd2:=hw_find_used F10.heap m2 u2;have HA10:=Lib.hid (K10.far HA2.out (by decide) (by decide));have HC10:=Lib.hid (K10.far HC2.out (by decide) (by decide)))))
       obtain ⟨q0,qz,qu,qw,qn⟩:=b2
       simp only at u2 o2 g2 y2
       subst u2
       obtain rfl:qw=ow:=o2
       obtain ⟨y2a,rfl⟩:=y2
       simp only [Blk.val] at hfd2
       rw [y2a] at hfd2 g2
       obtain ⟨nb,hnb⟩:∃ nb,(qn+7) / 8=nb:=⟨_,rfl⟩
       rw [hnb] at g2
       have hqb:q<100000∧qn≤4800:=by
        obtain ⟨_,_,_,_,_,_,hs⟩:=F10.heap
        have h1:=hs.told.is _ m2
        have h2:=h1.hi
        have h3:=hs.low
        have h4:=h1.len
        rw [if_pos rfl] at h4
        simp only at h2 h4
        omega
       have hnwb:∀ V,Calls Tryz.prog 15 #[.int .u64 qn] V fun e w'=>e=.returned (.int .u64 (nb:Nat))∧V=w':=fun V=>by rw [← hnb];exact rwords_any qn (by omega) V
       have hnb7:nb≤1000:=by omega
       have HQB:=Lib.hid hqb
       have HG2:=Lib.hid g2
       clear g2 hqb hnb Z10 m2 y2a hkp hrz hrz2 hot
       go_wp2_with (first
        | (go_at_call 14;((with_reducible refine hfd2.mono ?_);rintro e11 w11 ⟨rfl,hg11'⟩;have hg11:=grown_trans hg11' (World.grownBy_alloc w11 (.cells #[.int .u64 q0,.int .u64 qz,.bool true,.int .i64 qw,.int .u64 qn] 45) none);have HD11:=heap_alloc_new' w11 (.cells #[.int .u64 q0,.int .u64 qz,.bool true,.int .i64 qw,.int .u64 qn] 45);have HA11:=(hg11.block _ (lt_of_block HA10.out) (by simp)).trans HA10.out;have HC11:=(hg11.block _ (lt_of_block HC10.out) (by simp)).trans HC10.out;have F11:=F10.later hg11)))
       obtain ⟨W11,hW11⟩:∃ W11,w11.alloc (.cells #[.int .u64 q0,.int .u64 qz,.bool true,.int .i64 qw,.int .u64 qn] 45)=W11:=⟨_,rfl⟩
       obtain ⟨db,hdb⟩:∃ x,w11.heap.size=x:=⟨_,rfl⟩
       rw [hdb] at HD11 ⊢
       rw [hW11] at HD11 HA11 HC11 F11 ⊢
       have hld:=fun (V:World) (x:Nat) (hg:W11.grownBy V none) (hx:x<18446744073709551616)=>hf_load (F11.later hg) hx
       have hbx:∀ V:World,W11.grownBy V none→(V.heap[db]?=some (.cells #[.int .u64 q0,.int .u64 qz,.bool true,.int .i64 qw,.int .u64 qn] 45 (0,0))∧V.heap[ab]?=some (.cells #[.int .u64 bo,.int .u64 bz,.bool true,.int .i64 qw,.int .u64 bn] 45 (0,0))∧V.heap[ob]?=some (.cells #[.int .u64 co,.int .u64 cz,.bool true,.int .i64 cw,.int .u64 cn] 45 (0,0))):=fun V hg=>⟨(hg.block _ (lt_of_block HD11) (by simp)).trans HD11,(hg.block _ (lt_of_block HA11) (by simp)).trans HA11,(hg.block _ (lt_of_block HC11) (by simp)).trans HC11⟩
       have HBX:=Lib.hid hbx
       have HG11:=Lib.hid F11.heap.since
       clear hbx HD11 HA11 HC11 F11 F10 F2 HA10 HC10 HA2 HC2 HP2 hfd2 hg11 hg11' hW11 hdb
       go_loopw [23] (fun i wr=>∃ k3:Nat,k3≤nb∧i=.int .u64 k3∧W11.grownBy wr none) (fun i _=>nb - (intOf i).toNat)
       case atStart=>exact ⟨0,Nat.zero_le _,rfl,grown_refl _ _⟩
       case round =>
        obtain ⟨k3,hk3,rfl,hg3⟩:=hrel
        rename_i wr3
        obtain ⟨hD,hA,hC⟩:=HBX.out _ hg3
        obtain ⟨c0,c1',c2,c3,c4⟩:=five_cells hD
        obtain ⟨d0,d1,d2,d3,d4⟩:=five_cells hA
        rcases Nat.lt_or_ge k3 nb with h3|h3
        ·have h3':(k3:Int)<(nb:Int):=by omega
         obtain ⟨x,hx⟩:∃ x,q+8*k3=x:=⟨_,rfl⟩
         have hgx:=HG2.out k3 h3
         rw [hx] at hgx
         have hqb:=HQB.out
         have w8:IntKind.u64.wrap (8*(k3:Int))=((8*k3:Nat):Int):=by rw [IntKind.wrap_u64];omega
         obtain ⟨k8,hk8⟩:∃ k8,8*k3=k8:=⟨_,rfl⟩
         rw [hk8] at w8 hx
         have wx:IntKind.u64.wrap ((q:Int)+(k8:Int))=(x:Nat):=by rw [IntKind.wrap_u64];omega
         have hl:=hld _ x hg3 (by omega)
         rw [hgx] at hl
         have wv:IntKind.u64.wrap (1000+(k3:Int))=((1000+k3:Nat):Int):=by rw [IntKind.wrap_u64];omega
         by_cases hka:k3<k
         ·rw [if_pos hka] at hl
          obtain ⟨v,hv⟩:∃ v,1000+k3=v:=⟨_,rfl⟩
          rw [hv] at hl wv
          have hka':¬ (k:Int)≤(k3:Int):=by omega
          have ev:((v:Int) != (v:Int))=false:=by simp
          clear hgx hqb hx hk8 hv hD hA hC hka
          go_wp2_with (first
           | (go_at_call 15;((with_reducible first|refine (hnwb _).mono ?_|refine (hnwa _).mono ?_);rintro e8 w8' ⟨rfl,rfl⟩))
           | (go_at_call 17;((with_reducible refine hl.mono ?_);rintro e12 w12 ⟨rfl,hg12⟩)))
          go_roundw
          case rel=>exact ⟨k3+1,by omega,by go_num,grown_trans hg3 hg12⟩
          case measure=>simp [intOf];omega
         ·rw [if_neg hka] at hl
          rw [show ((0:Nat):Int)=0 from rfl] at hl
          have hka':(k:Int)≤(k3:Int):=by omega
          clear hgx hqb hx hk8 hD hA hC hka
          go_wp2_with (first
           | (go_at_call 15;((with_reducible first|refine (hnwb _).mono ?_|refine (hnwa _).mono ?_);rintro e8 w8' ⟨rfl,rfl⟩))
           | (go_at_call 17;((with_reducible refine hl.mono ?_);rintro e12 w12 ⟨rfl,hg12⟩)))
          go_roundw
          case rel=>exact ⟨k3+1,by omega,by go_num,grown_trans hg3 hg12⟩
          case measure=>simp [intOf];omega
        ·obtain rfl:k3=nb:=by omega
         have h3n:¬ (k3:Int)<(k3:Int):=by omega
         go_wp2_with (first
          | (go_at_call 15;((with_reducible refine (hnwb _).mono ?_);rintro e8 w8' ⟨rfl,rfl⟩)))
         clear c0 c1' c2 c3 c4 d0 d1 d2 d3 d4 hD hA hC h3n
         go_loopw [25] (fun i wr=>i=.int .u64 0∧W11.grownBy wr none) (fun _ _=>0)
         case atStart=>exact ⟨rfl,hg3⟩
         case round =>
          obtain ⟨rfl,hg4⟩:=hrel
          obtain ⟨hD,hA,hC⟩:=HBX.out _ hg4
          obtain ⟨c0,c1',c2,c3,c4⟩:=five_cells hC
          obtain ⟨y0,y1,y2,y3,y4⟩:=five_cells hD
          obtain ⟨d0,d1,d2,d3,d4⟩:=five_cells hA
          by_cases hz:0<nc
          ·have hz':(0:Int)<(nc:Int):=by omega
           go_wp2_with (first
            | (go_at_call 15;((with_reducible refine (hnwc _).mono ?_);rintro e8 w8' ⟨rfl,rfl⟩)))
           go_ret
           exact ⟨rfl,grown_trans HG1.out (grown_trans HG11.out hg4)⟩
          ·have hz':¬ (0:Int)<(nc:Int):=by omega
           go_wp2_with (first
            | (go_at_call 15;((with_reducible refine (hnwc _).mono ?_);rintro e8 w8' ⟨rfl,rfl⟩)))
           go_ret
           exact ⟨rfl,grown_trans HG1.out (grown_trans HG11.out hg4)⟩
      ·have hrz2:=hrz _ _ _ _ _ F2
       go_wp2_with (first
        | (go_at_call 15;((with_reducible refine (hnwa _).mono ?_);rintro e8 w8' ⟨rfl,rfl⟩))
        | (go_at_call 10;((with_reducible refine hrz2.mono ?_);rintro e10 w10 ⟨rfl,R10,f10,F10,Z10,K10⟩;obtain ⟨b2,m2,u2,o2,g2,y2⟩:=hkp _ _ _ _ _ _ F2 Z10 (HP2.out);have hfd2:=hw_find_used F10.heap m2 u2;have HA10:=Lib.hid (K10.far HA2.out (by decide) (by decide));have HC10:=Lib.hid (K10.far HC2.out (by decide) (by decide)))))
       obtain ⟨q0,qz,qu,qw,qn⟩:=b2
       simp only at u2 o2 g2 y2
       subst u2
       obtain rfl:qw=ow:=o2
       obtain ⟨y2a,y2b⟩:=y2
       injection y2b with y21 y22 y23 y24 y25
       obtain rfl:=y21.symm
       obtain rfl:=y22.symm
       obtain rfl:=y25.symm
       clear y23 y24
       simp only [Blk.val] at hfd2
       rw [y2a] at hfd2 g2
       obtain ⟨nb,hnb⟩:∃ nb,(bn+7) / 8=nb:=⟨_,rfl⟩
       rw [hnb] at g2
       obtain rfl:k=nb:=HN.out.1.symm.trans hnb
       have hqb:p<100000∧bn≤4800:=by
        obtain ⟨_,_,_,_,_,_,hs⟩:=F10.heap
        have h1:=hs.told.is _ m2
        have h2:=h1.hi
        have h3:=hs.low
        have h4:=h1.len
        rw [if_pos rfl] at h4
        simp only at h2 h4
        omega
       have hnwb:∀ V,Calls Tryz.prog 15 #[.int .u64 bn] V fun e w'=>e=.returned (.int .u64 (k:Nat))∧V=w':=fun V=>by rw [← hnb];exact rwords_any bn (by omega) V
       have hnb7:k≤1000:=by omega
       have HQB:=Lib.hid hqb
       have HG2:=Lib.hid g2
       clear g2 hqb hnb Z10 m2 y2a hkp hrz hrz2 hot
       go_wp2_with (first
        | (go_at_call 14;((with_reducible refine hfd2.mono ?_);rintro e11 w11 ⟨rfl,hg11'⟩;have hg11:=grown_trans hg11' (World.grownBy_alloc w11 (.cells #[.int .u64 bo,.int .u64 bz,.bool true,.int .i64 qw,.int .u64 bn] 45) none);have HD11:=heap_alloc_new' w11 (.cells #[.int .u64 bo,.int .u64 bz,.bool true,.int .i64 qw,.int .u64 bn] 45);have HA11:=(hg11.block _ (lt_of_block HA10.out) (by simp)).trans HA10.out;have HC11:=(hg11.block _ (lt_of_block HC10.out) (by simp)).trans HC10.out;have F11:=F10.later hg11)))
       obtain ⟨W11,hW11⟩:∃ W11,w11.alloc (.cells #[.int .u64 bo,.int .u64 bz,.bool true,.int .i64 qw,.int .u64 bn] 45)=W11:=⟨_,rfl⟩
       obtain ⟨db,hdb⟩:∃ x,w11.heap.size=x:=⟨_,rfl⟩
       rw [hdb] at HD11 ⊢
       rw [hW11] at HD11 HA11 HC11 F11 ⊢
       have hld:=fun (V:World) (x:Nat) (hg:W11.grownBy V none) (hx:x<18446744073709551616)=>hf_load (F11.later hg) hx
       have hbx:∀ V:World,W11.grownBy V none→(V.heap[db]?=some (.cells #[.int .u64 bo,.int .u64 bz,.bool true,.int .i64 qw,.int .u64 bn] 45 (0,0))∧V.heap[ab]?=some (.cells #[.int .u64 bo,.int .u64 bz,.bool true,.int .i64 qw,.int .u64 bn] 45 (0,0))∧V.heap[ob]?=some (.cells #[.int .u64 co,.int .u64 cz,.bool true,.int .i64 cw,.int .u64 cn] 45 (0,0))):=fun V hg=>⟨(hg.block _ (lt_of_block HD11) (by simp)).trans HD11,(hg.block _ (lt_of_block HA11) (by simp)).trans HA11,(hg.block _ (lt_of_block HC11) (by simp)).trans HC11⟩
       have HBX:=Lib.hid hbx
       have HG11:=Lib.hid F11.heap.since
       clear hbx HD11 HA11 HC11 F11 F10 F2 HA10 HC10 HA2 HC2 HP2 hfd2 hg11 hg11' hW11 hdb
       go_loopw [23] (fun i wr=>∃ k3:Nat,k3≤k∧i=.int .u64 k3∧W11.grownBy wr none) (fun i _=>k - (intOf i).toNat)
       case atStart=>exact ⟨0,Nat.zero_le _,rfl,grown_refl _ _⟩
       case round =>
        obtain ⟨k3,hk3,rfl,hg3⟩:=hrel
        rename_i wr3
        obtain ⟨hD,hA,hC⟩:=HBX.out _ hg3
        obtain ⟨c0,c1',c2,c3,c4⟩:=five_cells hD
        obtain ⟨d0,d1,d2,d3,d4⟩:=five_cells hA
        rcases Nat.lt_or_ge k3 k with h3|h3
        ·have h3':(k3:Int)<(k:Int):=by omega
         obtain ⟨x,hx⟩:∃ x,p+8*k3=x:=⟨_,rfl⟩
         have hgx:=HG2.out k3 h3
         rw [hx] at hgx
         have hqb:=HQB.out
         have w8:IntKind.u64.wrap (8*(k3:Int))=((8*k3:Nat):Int):=by rw [IntKind.wrap_u64];omega
         obtain ⟨k8,hk8⟩:∃ k8,8*k3=k8:=⟨_,rfl⟩
         rw [hk8] at w8 hx
         have wx:IntKind.u64.wrap ((p:Int)+(k8:Int))=(x:Nat):=by rw [IntKind.wrap_u64];omega
         have hl:=hld _ x hg3 (by omega)
         rw [hgx] at hl
         have wv:IntKind.u64.wrap (1000+(k3:Int))=((1000+k3:Nat):Int):=by rw [IntKind.wrap_u64];omega
         by_cases hka:k3<k
         ·rw [if_pos hka] at hl
          obtain ⟨v,hv⟩:∃ v,1000+k3=v:=⟨_,rfl⟩
          rw [hv] at hl wv
          have hka':¬ (k:Int)≤(k3:Int):=by omega
          have ev:((v:Int) != (v:Int))=false:=by simp
          clear hgx hqb hx hk8 hv hD hA hC hka
          go_wp2_with (first
           | (go_at_call 15;((with_reducible first|refine (hnwb _).mono ?_|refine (hnwa _).mono ?_);rintro e8 w8' ⟨rfl,rfl⟩))
           | (go_at_call 17;((with_reducible refine hl.mono ?_);rintro e12 w12 ⟨rfl,hg12⟩)))
          go_roundw
          case rel=>exact ⟨k3+1,by omega,by go_num,grown_trans hg3 hg12⟩
          case measure=>simp [intOf];omega
         ·exact absurd h3 hka
        ·obtain rfl:k3=k:=by omega
         have h3n:¬ (k3:Int)<(k3:Int):=by omega
         go_wp2_with (first
          | (go_at_call 15;((with_reducible refine (hnwb _).mono ?_);rintro e8 w8' ⟨rfl,rfl⟩)))
         clear c0 c1' c2 c3 c4 d0 d1 d2 d3 d4 hD hA hC h3n
         go_loopw [25] (fun i wr=>i=.int .u64 0∧W11.grownBy wr none) (fun _ _=>0)
         case atStart=>exact ⟨rfl,hg3⟩
         case round =>
          obtain ⟨rfl,hg4⟩:=hrel
          obtain ⟨hD,hA,hC⟩:=HBX.out _ hg4
          obtain ⟨c0,c1',c2,c3,c4⟩:=five_cells hC
          obtain ⟨y0,y1,y2,y3,y4⟩:=five_cells hD
          obtain ⟨d0,d1,d2,d3,d4⟩:=five_cells hA
          by_cases hz:0<nc
          ·have hz':(0:Int)<(nc:Int):=by omega
           go_wp2_with (first
            | (go_at_call 15;((with_reducible refine (hnwc _).mono ?_);rintro e8 w8' ⟨rfl,rfl⟩)))
           go_ret
           exact ⟨rfl,grown_trans HG1.out (grown_trans HG11.out hg4)⟩
          ·have hz':¬ (0:Int)<(nc:Int):=by omega
           go_wp2_with (first
            | (go_at_call 15;((with_reducible refine (hnwc _).mono ?_);rintro e8 w8' ⟨rfl,rfl⟩)))
           go_ret
           exact ⟨rfl,grown_trans HG1.out (grown_trans HG11.out hg4)⟩
     ·have HOP:=Lib.hid hop
      have eop:((o:Int) != (p:Int))=true:=by simp;omega
      clear hop
      have HA1:=Lib.hid A1
      have HC1:=Lib.hid C1
      have S1:KpS w1 T E ab ob (.cells #[.int .u64 bo,.int .u64 bz,.bool true,.int .i64 ow,.int .u64 bn] 45) (.cells #[.int .u64 co,.int .u64 cz,.bool true,.int .i64 cw,.int .u64 cn] 45) bs L (fun f=>(∀ j,j<k→f (p+8*j)=1000+j)∧∀ j,j<0→f (o+8*j)=2000+j) wr:=⟨R1,f1,F1,⟨P1,fun j hj=>absurd hj (Nat.not_lt_zero _)⟩,A1,C1⟩
      have HP:=Lib.hid P1
      clear P1 A1 C1 F1 hst
      obtain ⟨q0,q1,q2,q3,q4⟩:=five_cells HA1.out
      go_wp2_with (first|(go_at_call 15;((with_reducible refine (hnwa _).mono ?_);rintro e8 w8' ⟨rfl,rfl⟩)))
      clear c0 c1' c2 c3 c4 q0 q1 q2 q3 q4 HA1 HC1 HP
      go_loopw [18] (fun i wr=>∃ k2:Nat,k2≤nc∧i=.int .u64 k2∧KpS w1 T E ab ob (.cells #[.int .u64 bo,.int .u64 bz,.bool true,.int .i64 ow,.int .u64 bn] 45) (.cells #[.int .u64 co,.int .u64 cz,.bool true,.int .i64 cw,.int .u64 cn] 45) bs L (fun f=>(∀ j,j<k→f (p+8*j)=1000+j)∧∀ j,j<k2→f (o+8*j)=2000+j) wr) (fun i _=>nc - (intOf i).toNat)
      case atStart=>exact ⟨0,Nat.zero_le _,rfl,S1⟩
      case round =>
       obtain ⟨k2,hk2,rfl,R2,f2,F2,⟨P2,Q2⟩,A2,C2⟩:=hrel
       rename_i wr2
       clear S1
       obtain ⟨c0,c1',c2,c3,c4⟩:=five_cells C2
       rcases Nat.lt_or_ge k2 nc with h2|h2
       ·have h2':(k2:Int)<(nc:Int):=by omega
        have hna':=HN.out
        obtain ⟨⟨hp1,hp2,hp3,hp4,hp5⟩,⟨ho1,ho2,ho3,ho4,ho5⟩,hsep⟩:=HBD.out
        have hsep':=hsep HOP.out
        obtain ⟨x,hx⟩:∃ x,o+8*k2=x:=⟨_,rfl⟩
        obtain ⟨v,hv⟩:∃ v,2000+k2=v:=⟨_,rfl⟩
        have w8:IntKind.u64.wrap (8*(k2:Int))=((8*k2:Nat):Int):=by rw [IntKind.wrap_u64];omega
        obtain ⟨k8,hk8⟩:∃ k8,8*k2=k8:=⟨_,rfl⟩
        rw [hk8] at w8 hx
        have wx:IntKind.u64.wrap ((o:Int)+(k8:Int))=(x:Nat):=by rw [IntKind.wrap_u64];omega
        have wv:IntKind.u64.wrap (2000+(k2:Int))=(v:Nat):=by rw [IntKind.wrap_u64];omega
        have hs1:=hst2 _ _ _ _ _ x v F2 (by omega) (by omega) (by omega) (by omega)
        have hP2:(∀ j,j<k→putF f2 x v (p+8*j)=1000+j)∧∀ j,j<k2+1→putF f2 x v (o+8*j)=2000+j:=⟨fun j hj=>by
         unfold putF
         rw [if_neg (by omega)]
         exact P2 j hj,fun j hj=>by
         unfold putF
         by_cases e:j=k2
         ·rw [e,if_pos (by omega),hv]
         ·rw [if_neg (by omega)];exact Q2 j (by omega)⟩
        have HP2:=Lib.hid hP2
        have HA2:=Lib.hid A2
        have HC2:=Lib.hid C2
        clear hP2 P2 Q2 A2 C2 hx hv hk8 hna' hot hp1 hp2 hp3 hp4 hp5 ho1 ho2 ho3 ho4 ho5 hsep hsep'
        go_wp2_with (first
         | (go_at_call 15;((with_reducible refine (hnwc _).mono ?_);rintro e8 w8' ⟨rfl,rfl⟩))
         | (go_at_call 16;((with_reducible refine hs1.mono ?_);rintro e9 w9 ⟨rfl,R9,F9,K9⟩)))
        go_roundw
        case rel=>exact ⟨k2+1,by omega,by go_num,R9,_,F9,HP2.out,K9.far HA2.out (by decide) (by decide),K9.far HC2.out (by decide) (by decide)⟩
        case measure=>simp [intOf];omega
       ·obtain rfl:k2=nc:=by omega
        have h2n:¬ (k2:Int)<(k2:Int):=by omega
        have HA2:=Lib.hid A2
        have HC2:=Lib.hid C2
        have HP2:=Lib.hid (And.intro P2 Q2)
        have F2:=F2
        clear P2 Q2 A2 C2 hst2
        rcases HRZ.out with ⟨q,hrz,hkp⟩|⟨hrz,hkp⟩
        ·have hrz2:=hrz _ _ _ _ _ F2
         go_wp2_with (first
          | (go_at_call 15;((with_reducible refine (hnwc _).mono ?_);rintro e8 w8' ⟨rfl,rfl⟩))
          | (go_at_call 10;((with_reducible refine hrz2.mono ?_);rintro e10 w10 ⟨rfl,R10,f10,F10,Z10,K10⟩;obtain ⟨b2,m2,u2,o2,g2,y2⟩:=hkp _ _ _ _ _ _ F2 Z10 (HP2.out.1);have hfd2:=hw_find_used F10.heap m2 u2;have HA10:=Lib.hid (K10.far HA2.out (by decide) (by decide));have HC10:=Lib.hid (K10.far HC2.out (by decide) (by decide)))))
         obtain ⟨q0,qz,qu,qw,qn⟩:=b2
         simp only at u2 o2 g2 y2
         subst u2
         obtain rfl:qw=ow:=o2
         obtain ⟨y2a,rfl⟩:=y2
         simp only [Blk.val] at hfd2
         rw [y2a] at hfd2 g2
         obtain ⟨nb,hnb⟩:∃ nb,(qn+7) / 8=nb:=⟨_,rfl⟩
         rw [hnb] at g2
         have hqb:q<100000∧qn≤4800:=by
          obtain ⟨_,_,_,_,_,_,hs⟩:=F10.heap
          have h1:=hs.told.is _ m2
          have h2:=h1.hi
          have h3:=hs.low
          have h4:=h1.len
          rw [if_pos rfl] at h4
          simp only at h2 h4
          omega
         have hnwb:∀ V,Calls Tryz.prog 15 #[.int .u64 qn] V fun e w'=>e=.returned (.int .u64 (nb:Nat))∧V=w':=fun V=>by rw [← hnb];exact rwords_any qn (by omega) V
         have hnb7:nb≤1000:=by omega
         have HQB:=Lib.hid hqb
         have HG2:=Lib.hid g2
         have hoth:∀ j,j<k2→f10 (o+8*j)=2000+j:=fun j hj=>by
          rw [← HP2.out.2 j hj]
          have h1:=HBD.out.2.1
          have h2:=HN.out.2
          exact hot _ _ _ _ _ _ _ F2 Z10 (by have:=HOP.out;omega) (by omega) (by omega)
         have HOT:=Lib.hid hoth
         clear hoth
         clear g2 hqb hnb Z10 m2 y2a hkp hrz hrz2 hot
         go_wp2_with (first
          | (go_at_call 14;((with_reducible refine hfd2.mono ?_);rintro e11 w11 ⟨rfl,hg11'⟩;have hg11:=grown_trans hg11' (World.grownBy_alloc w11 (.cells #[.int .u64 q0,.int .u64 qz,.bool true,.int .i64 qw,.int .u64 qn] 45) none);have HD11:=heap_alloc_new' w11 (.cells #[.int .u64 q0,.int .u64 qz,.bool true,.int .i64 qw,.int .u64 qn] 45);have HA11:=(hg11.block _ (lt_of_block HA10.out) (by simp)).trans HA10.out;have HC11:=(hg11.block _ (lt_of_block HC10.out) (by simp)).trans HC10.out;have F11:=F10.later hg11)))
         obtain ⟨W11,hW11⟩:∃ W11,w11.alloc (.cells #[.int .u64 q0,.int .u64 qz,.bool true,.int .i64 qw,.int .u64 qn] 45)=W11:=⟨_,rfl⟩
         obtain ⟨db,hdb⟩:∃ x,w11.heap.size=x:=⟨_,rfl⟩
         rw [hdb] at HD11 ⊢
         rw [hW11] at HD11 HA11 HC11 F11 ⊢
         have hld:=fun (V:World) (x:Nat) (hg:W11.grownBy V none) (hx:x<18446744073709551616)=>hf_load (F11.later hg) hx
         have hbx:∀ V:World,W11.grownBy V none→(V.heap[db]?=some (.cells #[.int .u64 q0,.int .u64 qz,.bool true,.int .i64 qw,.int .u64 qn] 45 (0,0))∧V.heap[ab]?=some (.cells #[.int .u64 bo,.int .u64 bz,.bool true,.int .i64 qw,.int .u64 bn] 45 (0,0))∧V.heap[ob]?=some (.cells #[.int .u64 co,.int .u64 cz,.bool true,.int .i64 cw,.int .u64 cn] 45 (0,0))):=fun V hg=>⟨(hg.block _ (lt_of_block HD11) (by simp)).trans HD11,(hg.block _ (lt_of_block HA11) (by simp)).trans HA11,(hg.block _ (lt_of_block HC11) (by simp)).trans HC11⟩
         have HBX:=Lib.hid hbx
         have HG11:=Lib.hid F11.heap.since
         clear hbx HD11 HA11 HC11 F11 F10 F2 HA10 HC10 HA2 HC2 HP2 hfd2 hg11 hg11' hW11 hdb
         go_loopw [23] (fun i wr=>∃ k3:Nat,k3≤nb∧i=.int .u64 k3∧W11.grownBy wr none) (fun i _=>nb - (intOf i).toNat)
         case atStart=>exact ⟨0,Nat.zero_le _,rfl,grown_refl _ _⟩
         case round =>
          obtain ⟨k3,hk3,rfl,hg3⟩:=hrel
          rename_i wr3
          obtain ⟨hD,hA,hC⟩:=HBX.out _ hg3
          obtain ⟨c0,c1',c2,c3,c4⟩:=five_cells hD
          obtain ⟨d0,d1,d2,d3,d4⟩:=five_cells hA
          rcases Nat.lt_or_ge k3 nb with h3|h3
          ·have h3':(k3:Int)<(nb:Int):=by omega
           obtain ⟨x,hx⟩:∃ x,q+8*k3=x:=⟨_,rfl⟩
           have hgx:=HG2.out k3 h3
           rw [hx] at hgx
           have hqb:=HQB.out
           have w8:IntKind.u64.wrap (8*(k3:Int))=((8*k3:Nat):Int):=by rw [IntKind.wrap_u64];omega
           obtain ⟨k8,hk8⟩:∃ k8,8*k3=k8:=⟨_,rfl⟩
           rw [hk8] at w8 hx
           have wx:IntKind.u64.wrap ((q:Int)+(k8:Int))=(x:Nat):=by rw [IntKind.wrap_u64];omega
           have hl:=hld _ x hg3 (by omega)
           rw [hgx] at hl
           have wv:IntKind.u64.wrap (1000+(k3:Int))=((1000+k3:Nat):Int):=by rw [IntKind.wrap_u64];omega
           by_cases hka:k3<k
           ·rw [if_pos hka] at hl
            obtain ⟨v,hv⟩:∃ v,1000+k3=v:=⟨_,rfl⟩
            rw [hv] at hl wv
            have hka':¬ (k:Int)≤(k3:Int):=by omega
            have ev:((v:Int) != (v:Int))=false:=by simp
            clear hgx hqb hx hk8 hv hD hA hC hka
            go_wp2_with (first
             | (go_at_call 15;((with_reducible first|refine (hnwb _).mono ?_|refine (hnwa _).mono ?_);rintro e8 w8' ⟨rfl,rfl⟩))
             | (go_at_call 17;((with_reducible refine hl.mono ?_);rintro e12 w12 ⟨rfl,hg12⟩)))
            go_roundw
            case rel=>exact ⟨k3+1,by omega,by go_num,grown_trans hg3 hg12⟩
            case measure=>simp [intOf];omega
           ·rw [if_neg hka] at hl
            rw [show ((0:Nat):Int)=0 from rfl] at hl
            have hka':(k:Int)≤(k3:Int):=by omega
            clear hgx hqb hx hk8 hD hA hC hka
            go_wp2_with (first
             | (go_at_call 15;((with_reducible first|refine (hnwb _).mono ?_|refine (hnwa _).mono ?_);rintro e8 w8' ⟨rfl,rfl⟩))
             | (go_at_call 17;((with_reducible refine hl.mono ?_);rintro e12 w12 ⟨rfl,hg12⟩)))
            go_roundw
            case rel=>exact ⟨k3+1,by omega,by go_num,grown_trans hg3 hg12⟩
            case measure=>simp [intOf];omega
          ·obtain rfl:k3=nb:=by omega
           have h3n:¬ (k3:Int)<(k3:Int):=by omega
           go_wp2_with (first
            | (go_at_call 15;((with_reducible refine (hnwb _).mono ?_);rintro e8 w8' ⟨rfl,rfl⟩)))
           clear c0 c1' c2 c3 c4 d0 d1 d2 d3 d4 hD hA hC h3n
           go_loopw [25] (fun i wr=>∃ k4:Nat,k4≤k2∧i=.int .u64 k4∧W11.grownBy wr none) (fun i _=>k2 - (intOf i).toNat)
           case atStart=>exact ⟨0,Nat.zero_le _,rfl,hg3⟩
           case round =>
            obtain ⟨k4,hk4,rfl,hg4⟩:=hrel
            rename_i wr4
            obtain ⟨hD,hA,hC⟩:=HBX.out _ hg4
            obtain ⟨c0,c1',c2,c3,c4⟩:=five_cells hC
            rcases Nat.lt_or_ge k4 k2 with h4|h4
            ·have h4':(k4:Int)<(k2:Int):=by omega
             obtain ⟨x,hx⟩:∃ x,o+8*k4=x:=⟨_,rfl⟩
             have hgx:=HOT.out k4 h4
             rw [hx] at hgx
             have hob:=HBD.out.2.1
             have w8:IntKind.u64.wrap (8*(k4:Int))=((8*k4:Nat):Int):=by rw [IntKind.wrap_u64];omega
             obtain ⟨k8,hk8⟩:∃ k8,8*k4=k8:=⟨_,rfl⟩
             rw [hk8] at w8 hx
             have wx:IntKind.u64.wrap ((o:Int)+(k8:Int))=(x:Nat):=by rw [IntKind.wrap_u64];omega
             have hl:=hld _ x hg4 (by omega)
             rw [hgx] at hl
             have wv:IntKind.u64.wrap (2000+(k4:Int))=((2000+k4:Nat):Int):=by rw [IntKind.wrap_u64];omega
             obtain ⟨v,hv⟩:∃ v,2000+k4=v:=⟨_,rfl⟩
             rw [hv] at hl wv
             have ev:((v:Int) != (v:Int))=false:=by simp
             clear hgx hob hx hk8 hv hD hA hC
             go_wp2_with (first
              | (go_at_call 15;((with_reducible refine (hnwc _).mono ?_);rintro e8 w8' ⟨rfl,rfl⟩))
              | (go_at_call 17;((with_reducible refine hl.mono ?_);rintro e12 w12 ⟨rfl,hg12⟩)))
             go_roundw
             case rel=>exact ⟨k4+1,by omega,by go_num,grown_trans hg4 hg12⟩
             case measure=>simp [intOf];omega
            ·obtain rfl:k4=k2:=by omega
             have h4n:¬ (k4:Int)<(k4:Int):=by omega
             obtain ⟨y0,y1,y2,y3,y4⟩:=five_cells hD
             obtain ⟨d0,d1,d2,d3,d4⟩:=five_cells hA
             go_wp2_with (first
              | (go_at_call 15;((with_reducible refine (hnwc _).mono ?_);rintro e8 w8' ⟨rfl,rfl⟩)))
             go_ret
             exact ⟨rfl,grown_trans HG1.out (grown_trans HG11.out hg4)⟩
        ·have hrz2:=hrz _ _ _ _ _ F2
         go_wp2_with (first
          | (go_at_call 15;((with_reducible refine (hnwc _).mono ?_);rintro e8 w8' ⟨rfl,rfl⟩))
          | (go_at_call 10;((with_reducible refine hrz2.mono ?_);rintro e10 w10 ⟨rfl,R10,f10,F10,Z10,K10⟩;obtain ⟨b2,m2,u2,o2,g2,y2⟩:=hkp _ _ _ _ _ _ F2 Z10 (HP2.out.1);have hfd2:=hw_find_used F10.heap m2 u2;have HA10:=Lib.hid (K10.far HA2.out (by decide) (by decide));have HC10:=Lib.hid (K10.far HC2.out (by decide) (by decide)))))
         obtain ⟨q0,qz,qu,qw,qn⟩:=b2
         simp only at u2 o2 g2 y2
         subst u2
         obtain rfl:qw=ow:=o2
         obtain ⟨y2a,y2b⟩:=y2
         injection y2b with y21 y22 y23 y24 y25
         obtain rfl:=y21.symm
         obtain rfl:=y22.symm
         obtain rfl:=y25.symm
         clear y23 y24
         simp only [Blk.val] at hfd2
         rw [y2a] at hfd2 g2
         obtain ⟨nb,hnb⟩:∃ nb,(bn+7) / 8=nb:=⟨_,rfl⟩
         rw [hnb] at g2
         obtain rfl:k=nb:=HN.out.1.symm.trans hnb
         have hqb:p<100000∧bn≤4800:=by
          obtain ⟨_,_,_,_,_,_,hs⟩:=F10.heap
          have h1:=hs.told.is _ m2
          have h2:=h1.hi
          have h3:=hs.low
          have h4:=h1.len
          rw [if_pos rfl] at h4
          simp only at h2 h4
          omega
         have hnwb:∀ V,Calls Tryz.prog 15 #[.int .u64 bn] V fun e w'=>e=.returned (.int .u64 (k:Nat))∧V=w':=fun V=>by rw [← hnb];exact rwords_any bn (by omega) V
         have hnb7:k≤1000:=by omega
         have HQB:=Lib.hid hqb
         have HG2:=Lib.hid g2
         have hoth:∀ j,j<k2→f10 (o+8*j)=2000+j:=fun j hj=>by
          rw [← HP2.out.2 j hj]
          have h1:=HBD.out.2.1
          have h2:=HN.out.2
          exact hot _ _ _ _ _ _ _ F2 Z10 (by have:=HOP.out;omega) (by omega) (by omega)
         have HOT:=Lib.hid hoth
         clear hoth
         clear g2 hqb hnb Z10 m2 y2a hkp hrz hrz2 hot
         go_wp2_with (first
          | (go_at_call 14;((with_reducible refine hfd2.mono ?_);rintro e11 w11 ⟨rfl,hg11'⟩;have hg11:=grown_trans hg11' (World.grownBy_alloc w11 (.cells #[.int .u64 bo,.int .u64 bz,.bool true,.int .i64 qw,.int .u64 bn] 45) none);have HD11:=heap_alloc_new' w11 (.cells #[.int .u64 bo,.int .u64 bz,.bool true,.int .i64 qw,.int .u64 bn] 45);have HA11:=(hg11.block _ (lt_of_block HA10.out) (by simp)).trans HA10.out;have HC11:=(hg11.block _ (lt_of_block HC10.out) (by simp)).trans HC10.out;have F11:=F10.later hg11)))
         obtain ⟨W11,hW11⟩:∃ W11,w11.alloc (.cells #[.int .u64 bo,.int .u64 bz,.bool true,.int .i64 qw,.int .u64 bn] 45)=W11:=⟨_,rfl⟩
         obtain ⟨db,hdb⟩:∃ x,w11.heap.size=x:=⟨_,rfl⟩
         rw [hdb] at HD11 ⊢
         rw [hW11] at HD11 HA11 HC11 F11 ⊢
         have hld:=fun (V:World) (x:Nat) (hg:W11.grownBy V none) (hx:x<18446744073709551616)=>hf_load (F11.later hg) hx
         have hbx:∀ V:World,W11.grownBy V none→(V.heap[db]?=some (.cells #[.int .u64 bo,.int .u64 bz,.bool true,.int .i64 qw,.int .u64 bn] 45 (0,0))∧V.heap[ab]?=some (.cells #[.int .u64 bo,.int .u64 bz,.bool true,.int .i64 qw,.int .u64 bn] 45 (0,0))∧V.heap[ob]?=some (.cells #[.int .u64 co,.int .u64 cz,.bool true,.int .i64 cw,.int .u64 cn] 45 (0,0))):=fun V hg=>⟨(hg.block _ (lt_of_block HD11) (by simp)).trans HD11,(hg.block _ (lt_of_block HA11) (by simp)).trans HA11,(hg.block _ (lt_of_block HC11) (by simp)).trans HC11⟩
         have HBX:=Lib.hid hbx
         have HG11:=Lib.hid F11.heap.since
         clear hbx HD11 HA11 HC11 F11 F10 F2 HA10 HC10 HA2 HC2 HP2 hfd2 hg11 hg11' hW11 hdb
         go_loopw [23] (fun i wr=>∃ k3:Nat,k3≤k∧i=.int .u64 k3∧W11.grownBy wr none) (fun i _=>k - (intOf i).toNat)
         case atStart=>exact ⟨0,Nat.zero_le _,rfl,grown_refl _ _⟩
         case round =>
          obtain ⟨k3,hk3,rfl,hg3⟩:=hrel
          rename_i wr3
          obtain ⟨hD,hA,hC⟩:=HBX.out _ hg3
          obtain ⟨c0,c1',c2,c3,c4⟩:=five_cells hD
          obtain ⟨d0,d1,d2,d3,d4⟩:=five_cells hA
          rcases Nat.lt_or_ge k3 k with h3|h3
          ·have h3':(k3:Int)<(k:Int):=by omega
           obtain ⟨x,hx⟩:∃ x,p+8*k3=x:=⟨_,rfl⟩
           have hgx:=HG2.out k3 h3
           rw [hx] at hgx
           have hqb:=HQB.out
           have w8:IntKind.u64.wrap (8*(k3:Int))=((8*k3:Nat):Int):=by rw [IntKind.wrap_u64];omega
           obtain ⟨k8,hk8⟩:∃ k8,8*k3=k8:=⟨_,rfl⟩
           rw [hk8] at w8 hx
           have wx:IntKind.u64.wrap ((p:Int)+(k8:Int))=(x:Nat):=by rw [IntKind.wrap_u64];omega
           have hl:=hld _ x hg3 (by omega)
           rw [hgx] at hl
           have wv:IntKind.u64.wrap (1000+(k3:Int))=((1000+k3:Nat):Int):=by rw [IntKind.wrap_u64];omega
           by_cases hka:k3<k
           ·rw [if_pos hka] at hl
            obtain ⟨v,hv⟩:∃ v,1000+k3=v:=⟨_,rfl⟩
            rw [hv] at hl wv
            have hka':¬ (k:Int)≤(k3:Int):=by omega
            have ev:((v:Int) != (v:Int))=false:=by simp
            clear hgx hqb hx hk8 hv hD hA hC hka
            go_wp2_with (first
             | (go_at_call 15;((with_reducible first|refine (hnwb _).mono ?_|refine (hnwa _).mono ?_);rintro e8 w8' ⟨rfl,rfl⟩))
             | (go_at_call 17;((with_reducible refine hl.mono ?_);rintro e12 w12 ⟨rfl,hg12⟩)))
            go_roundw
            case rel=>exact ⟨k3+1,by omega,by go_num,grown_trans hg3 hg12⟩
            case measure=>simp [intOf];omega
           ·exact absurd h3 hka
          ·obtain rfl:k3=k:=by omega
           have h3n:¬ (k3:Int)<(k3:Int):=by omega
           go_wp2_with (first
            | (go_at_call 15;((with_reducible refine (hnwb _).mono ?_);rintro e8 w8' ⟨rfl,rfl⟩)))
           clear c0 c1' c2 c3 c4 d0 d1 d2 d3 d4 hD hA hC h3n
           go_loopw [25] (fun i wr=>∃ k4:Nat,k4≤k2∧i=.int .u64 k4∧W11.grownBy wr none) (fun i _=>k2 - (intOf i).toNat)
           case atStart=>exact ⟨0,Nat.zero_le _,rfl,hg3⟩
           case round =>
            obtain ⟨k4,hk4,rfl,hg4⟩:=hrel
            rename_i wr4
            obtain ⟨hD,hA,hC⟩:=HBX.out _ hg4
            obtain ⟨c0,c1',c2,c3,c4⟩:=five_cells hC
            rcases Nat.lt_or_ge k4 k2 with h4|h4
            ·have h4':(k4:Int)<(k2:Int):=by omega
             obtain ⟨x,hx⟩:∃ x,o+8*k4=x:=⟨_,rfl⟩
             have hgx:=HOT.out k4 h4
             rw [hx] at hgx
             have hob:=HBD.out.2.1
             have w8:IntKind.u64.wrap (8*(k4:Int))=((8*k4:Nat):Int):=by rw [IntKind.wrap_u64];omega
             obtain ⟨k8,hk8⟩:∃ k8,8*k4=k8:=⟨_,rfl⟩
             rw [hk8] at w8 hx
             have wx:IntKind.u64.wrap ((o:Int)+(k8:Int))=(x:Nat):=by rw [IntKind.wrap_u64];omega
             have hl:=hld _ x hg4 (by omega)
             rw [hgx] at hl
             have wv:IntKind.u64.wrap (2000+(k4:Int))=((2000+k4:Nat):Int):=by rw [IntKind.wrap_u64];omega
             obtain ⟨v,hv⟩:∃ v,2000+k4=v:=⟨_,rfl⟩
             rw [hv] at hl wv
             have ev:((v:Int) != (v:Int))=false:=by simp
             clear hgx hob hx hk8 hv hD hA hC
             go_wp2_with (first
              | (go_at_call 15;((with_reducible refine (hnwc _).mono ?_);rintro e8 w8' ⟨rfl,rfl⟩))
              | (go_at_call 17;((with_reducible refine hl.mono ?_);rintro e12 w12 ⟨rfl,hg12⟩)))
             go_roundw
             case rel=>exact ⟨k4+1,by omega,by go_num,grown_trans hg4 hg12⟩
             case measure=>simp [intOf];omega
            ·obtain rfl:k4=k2:=by omega
             have h4n:¬ (k4:Int)<(k4:Int):=by omega
             obtain ⟨y0,y1,y2,y3,y4⟩:=five_cells hD
             obtain ⟨d0,d1,d2,d3,d4⟩:=five_cells hA
             go_wp2_with (first
              | (go_at_call 15;((with_reducible refine (hnwc _).mono ?_);rintro e8 w8' ⟨rfl,rfl⟩)))
             go_ret
             exact ⟨rfl,grown_trans HG1.out (grown_trans HG11.out hg4)⟩
theorem walk {w:World} {la:Option Addr} {n c:Nat} {X O A N:Nat→Nat} (hc:n≤c) (hn:n≤maxLen) (hp:DoneAt w la n X O A N) (a:Int) (wa:(Lit.int .u8 a).wf=true) (m:Int) (wm:(Lit.int .u16 m).wf=true) :
  Calls Tryz.prog 4 #[.slice la n c,.int .u8 a,.int .u16 m] w fun e w'=>e=.returned (.bool true)∧Below w.heap.size w w':=by
 have ba:=bounds_u8 wa
 obtain ⟨a,rfl⟩:=Int.eq_ofNat_of_zero_le ba.1
 have bm:=bounds_u16 wm
 obtain ⟨m,rfl⟩:=Int.eq_ofNat_of_zero_le bm.1
 exact (core hp hn (by omega) (by omega)).mono fun e w' ⟨h1,h2⟩=>⟨h1,grown_below h2⟩
theorem laidOut:laidOutB Tryz.prog=true:=by kernel_rfl
/-! ### The row's step: the guide's frame -/
theorem own:ownKnob Tryz.prog.godebug=none:=by kernel_rfl
set_option maxRecDepth 100000 in
theorem lifted (os:Os) (started:os.Started) (H:Type) (enc:TypeId × Value→H) :
  ReturnsInHanded {} Tryz.checked os 4 .any (Rows.resizeKeepsSpec.pre6 enc Tryz.prog Tryz.f4 Rows.resizeKeepsRow.domain false) (Rows.resizeKeepsSpec.post enc Tryz.prog Tryz.f4 false true false false):=by
 refine returnsInHanded_of_change (C:=Tryz.checked) own started (by kernel_rfl) Tryz.func4
  (ChangeSpec.witness6 (enc:=enc) (C:=Tryz.checked) false ⟨#[],#[.slice none 0 0,.int .u8 0,.int .u16 0],[]⟩ 8 (by kernel_rfl) (by kernel_rfl) (by kernel_rfl) (by kernel_rfl)) ?_
 intro W base args ds gs before hval0 hW hcnd _
 have hval:∀ (j:Nat) t v,Tryz.f4.params[j]?=some t→args[j]?=some v→Value.okWide Tryz.prog W .any base t v:=hval0
 have hW':=hW
 obtain ⟨p,q,hA0,hV,rfl,hfz,hnd⟩:=hW
 have hA:DataW.TrodAll enc Tryz.prog W 0 (fun _=>true) true Tryz.f4.params.toList args.toList ds p:=hA0
 rw [Tryz.params4] at hA hval
 obtain ⟨v0,vs0,d0,ds0,p0,q0,hargs,rfl,rfl,h0,r0⟩:=trodAll_cons hA
 obtain ⟨v1,vs1,d1,ds1,p1,q1,rfl,rfl,rfl,h1,r1⟩:=trodAll_cons r0
 obtain ⟨v2,vs2,d2,ds2,p2,q2,rfl,rfl,rfl,h2,r2⟩:=trodAll_cons r1
 obtain ⟨rfl,rfl,rfl⟩:=trodAll_nil r2
 obtain rfl:args=#[v0,v1,v2]:=by cases args;simp_all
 obtain ⟨rfl,rfl⟩:=trodVars_none hV
 have lt0:∀ x∈p0,x.block<W.heap.size:=by obtain ⟨m,hm⟩:=h0;exact DataW.trod_lt m _ _ _ hm
 obtain ⟨la0,n0,c0,X0,O0,A0,N0,rfl,hc0,hn0,hp0⟩:=open_done (hval 0 22 v0 rfl rfl) h0
 obtain ⟨a1,rfl,rfl,rfl,w1⟩:=open_int Tryz.underlying5 (hval 1 5 v1 rfl rfl) h1
 obtain ⟨a2,rfl,rfl,rfl,w2⟩:=open_int Tryz.underlying40 (hval 2 40 v2 rfl rfl) h2
 clear hA0 hval0
 refine (walk hc0 hn0 hp0 a1 w1 a2 w2).mono fun e W' ⟨he,bel⟩=>?_
 subst he
 exact ⟨_,rfl,_,_,_,[],_,[],hW',trodAll_mk1 (shut_bool Tryz.underlying4 _),(trodAll_cons_mk (Below.trod laidOut (by kernel_rfl) (of_decide_eq_true (by kernel_rfl)) h0 bel lt0) (trodAll_cons_mk (shut_int Tryz.underlying5 w1) (trodAll_cons_mk (shut_int Tryz.underlying40 w2) trodAll_mk0))),rfl,bel.frame _,fun h=>by cases h⟩

theorem over:Rows.resizeKeepsRow.holds Tryz.pinned (OpenSpec.ofChange Rows.resizeKeepsSpec) :=
 OpenClaim.holds_of_wide 4 Tryz.f4 rfl rfl rfl rfl rfl rfl rfl ⟨rfl,rfl,rfl,rfl,rfl⟩ rfl rfl rfl rfl rfl (by kernel_rfl) Tryz.func4 (by kernel_rfl)
  (of_decide_eq_true (by kernel_rfl)) (by unfold Func.isWrapper;first|(rw [if_pos (by decide +kernel)];kernel_rfl)|(rw [if_neg (by decide +kernel)];exact ⟨rfl,rfl⟩))
  (fun os started H enc _=>lifted os started H enc)

theorem proved:Rows.ResizeKeepsSaid :=
 over
#print axioms proved


end Go.Proofs.YtcbdbflgfhbikaaGreat.resizeKeeps
