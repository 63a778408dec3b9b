/-
  What the statements of layer 12 ask first (awake).
  No condition.
-/
import Derived.Test.YtcbdbflgfhbikaaGreatResP
import Derived.Test.YtcbdbflgfhbikaaGreatResE
import Derived.Laws.StructEq
import Derived.Deep.RegionHeld3
import Derived.BigQuiet
namespace Go.Proofs.YtcbdbflgfhbikaaGreat
open Go.RowKit
set_option linter.unusedVariables false
set_option linter.unusedSimpArgs false
set_option maxRecDepth 100000

abbrev two12:Array Value:=#[.int .u8 0,.int .u8 1,.int .u8 0,.int .u16 8,.int .u8 0,.int .u8 1,.int .u8 0,.int .u16 8]
def oT (i:Nat):Nat:=if i<2 then 1 else 0
def nT (i:Nat):Nat:=if i<2 then 8 else 0
theorem deeds_two (w:World):DoneAt (w.alloc (.cells two12 67)) (some ⟨w.heap.size,0,none⟩) 2 (fun _=>0) oT (fun _=>0) nT:=by
 have h:=heap_alloc_new' w (.cells two12 67)
 refine ⟨fun i=>?_,fun _=>⟨_,0,rfl,lt_of_block h,fun i hi=>?_⟩⟩
 ·unfold oT nT
  refine ⟨by decide,?_,by decide,?_⟩
  ·split <;> decide
  ·split <;> decide
 ·have hi3:i=0∨i=1:=by omega
  rcases hi3 with rfl|rfl <;> (unfold World.cell?;simp only [h];exact ⟨rfl,rfl,rfl,rfl⟩)
abbrev bT:List Blk:=[⟨3776,48,true,1,8⟩,⟨3824,48,true,1,8⟩,freeB 3872 608]
abbrev cT:List Blk:=[freeB 3776 48,⟨3824,48,true,1,8⟩,⟨3872,144,true,1,100⟩,freeB 4016 464]
theorem ds_two:(dS12 (fun _=>0) oT (fun _=>0) nT (min 2 25)).1=bT:=by decide
theorem rz_two:rzE bT 3808 100=0∧rzP bT 3808 100=3904∧rzB bT 3808 100=cT∧fstN (pF 3808) bT=some 0∧gN bT 0=8:=by decide
set_option maxHeartbeats 8000000 in
theorem awake12 (w:World):Calls Tryz.prog 8 #[] w fun e w'=>e=.returned (.bool true)∧w.grownBy w' none:=by
 have hpl:∀ w:World,Calls Tryz.prog 9 #[.slice (some ⟨w.heap.size,0,none⟩) 2 2] (w.alloc (.cells two12 67)) _:=fun w=>played12_any (c:=2) (deeds_two w) (by decide)
 rw [ds_two] at hpl
 obtain ⟨L,hL⟩:∃ L,(dS12 (fun _=>0) oT (fun _=>0) nT (min 2 25)).2=L:=⟨_,rfl⟩
 rw [hL] at hpl
 clear hL
 obtain ⟨z1,z2,z3,z4,z5⟩:=rz_two
 have hst:∀ (V W0:World) (T:Nat) (R:Option Nat) (f:Nat→Nat),HF W0 V T R (fmt48 4480) 4480 bT L f→Calls Tryz.prog 16 #[.pointer (some ⟨T,0,none⟩),.int .u64 3808,.int .u64 7] V fun e w'=>e=.returned (.tuple #[])∧∃ R',HF W0 w' T R' (fmt48 4480) 4480 bT L (putF f 3808 7)∧Keep V R w' R':=fun V W0 T R f h=>hf_put h (b:=⟨3776,48,true,1,8⟩) (by simp) rfl (by decide) (by decide) (by decide) (by decide)
 have hrz:∀ (V W0:World) (T:Nat) (R:Option Nat) (f:Nat→Nat),HF W0 V T R (fmt48 4480) 4480 bT L f→f 3808=7→Calls Tryz.prog 10 #[.pointer (some ⟨T,0,none⟩),.int .u64 3808,.int .u64 100] V fun e w'=>e=.returned (.tuple #[.int .u64 3904,.int .i64 0])∧∃ R' f' L',HF W0 w' T R' (fmt48 4480) 4480 cT L' f'∧f' 3904=7∧f' 3912=0∧Keep V R w' R':=fun V W0 T R f h hf=>by
  have:=rz_hf h 3808 100 (by decide) (by decide)
  rw [z1,z2,z3] at this
  refine this.mono ?_
  rintro e w' ⟨rfl,R',f',h1,h2,K⟩
  have h3:=h2.words 0 z4 z1
  rw [z2,z5] at h3
  have h4:=h3 0 (by decide)
  have h5:=h3 1 (by decide)
  rw [if_pos (by decide),hf] at h4
  rw [if_neg (by decide)] at h5
  exact ⟨rfl,R',f',_,h1,h4,h5,K⟩
 have hwk:∀ (V W0:World) (T:Nat) (R:Option Nat) (L:Nat→List Nat),HW W0 V T R (fmt48 4480) 4480 cT L→Calls Tryz.prog 24 #[.pointer (some ⟨T,0,none⟩)] V fun e w'=>∃ v,e=.returned (.tuple #[v,.int .i64 0])∧OwnB w' V.heap.size 45 v cT∧V.grownBy w' none:=fun V W0 T R L h=>hw_walk h
 have hgr:∀ (V W0:World) (T:Nat) (R:Option Nat) (L:Nat→List Nat) (f:Nat→Nat),HF W0 V T R (fmt48 4480) 4480 cT L f→Calls Tryz.prog 20 #[.pointer (some ⟨T,0,none⟩),.int .u64 48] V fun e w'=>e=.returned (.int .i64 0)∧∃ R' f' bs',HF W0 w' T R' (fmt48 4480) 4528 bs' L f'∧Keep V R w' R':=fun V W0 T R L f h=>by
  have:=gr_hf h 48 (by decide)
  rw [show grE 4480 48=0 from by decide] at this
  refine this.mono ?_
  rintro e w' ⟨rfl,_,h1⟩
  obtain ⟨R',f',h2,_,K⟩:=h1 rfl
  exact ⟨rfl,R',f',_,h2,K⟩
 have hsz:∀ (V W0:World) (T:Nat) (R:Option Nat) (bs:List Blk) (L:Nat→List Nat),HW W0 V T R (fmt48 4480) 4528 bs L→Calls Tryz.prog 22 #[.pointer (some ⟨T,0,none⟩)] V fun e w'=>e=.returned (.int .u64 4528)∧V.grownBy w' none:=fun V W0 T R bs L h=>hw_size h
 have hg0:=World.grownBy_alloc w (.cells two12 67) none
 obtain ⟨E,hE⟩:∃ E:Nat,4480=E:=⟨_,rfl⟩
 clear z1 z2 z3 z4 z5
 go_enter Tryz.func8,Tryz.ntmps8
 go_wp2_with (first
  | (go_at_call 9;((with_reducible refine (hpl _).mono ?_);rintro e w2 ⟨T,R,v,rfl,H2,V2⟩;obtain ⟨la,n,c,va,ln,vc,hv,hn⟩:=V2.lie;subst hv;rw [hE];have ga:=World.grownBy_alloc w2 (.cells (hC E la n c va ln vc) 30) none;obtain ⟨f,F2⟩:=(H2.later ga).see;have hst1:=hst _ _ _ _ _ F2;have hst2:=hst _ _ _ _ _ (H2.see).choose_spec;simp only [heapV]))
  | (go_at_call 16;((with_reducible first|refine hst1.mono ?_|refine hst2.mono ?_);rintro e w3 ⟨rfl,R3,F3,K3⟩;have hrz3:=hrz _ _ _ _ _ F3 (if_pos rfl)))
  | (go_at_call 10;((with_reducible refine hrz3.mono ?_);rintro e w4 ⟨rfl,R4,f4,L4,F4,e7,e0,K4⟩;have hwk4:=hwk _ _ _ _ _ F4.heap))
  | (go_at_call 24;((with_reducible refine hwk4.mono ?_);rintro e w5 ⟨v5,rfl,O5,hg5⟩)))
 obtain ⟨g,c5,hv5,hbg,hgw,_,hat⟩:=O5.spot (by decide)
 rw [show cT.length=4 from rfl] at hv5
 subst hv5
 have hcell:∀ {V:World},w5.grownBy V none→V.cell? ⟨g,2,none⟩=some (.bool false):=fun {V} hg=>by
  have h1:=(hat 0 (by decide)).2.2.1
  rw [show gU cT 0=false from rfl,Nat.zero_mul,Nat.zero_add] at h1
  exact (World.cell?_of_block (w:=w5) (a:=⟨g,2,none⟩) (hg.block g hgw (by simp))).trans h1
 have hl1:∀ V:World,w5.grownBy V none→Calls Tryz.prog 17 #[.pointer (some ⟨T,0,none⟩),.int .u64 3904] V fun e w'=>e=.returned (.int .u64 7)∧V.grownBy w' none:=fun V hg=>by
  have:=hf_load (F4.later (grown_trans hg5 hg)) (x:=3904) (by decide)
  rw [e7] at this
  exact this
 have hl2:∀ V:World,w5.grownBy V none→Calls Tryz.prog 17 #[.pointer (some ⟨T,0,none⟩),.int .u64 3912] V fun e w'=>e=.returned (.int .u64 0)∧V.grownBy w' none:=fun V hg=>by
  have:=hf_load (F4.later (grown_trans hg5 hg)) (x:=3912) (by decide)
  rw [e0] at this
  exact this
 have hg2:=fun (V:World) (hg:w5.grownBy V none)=>hgr _ _ _ _ _ _ (F4.later (grown_trans hg5 hg))
 have HG:w5.grownBy w5 none:=grown_refl _ _
 have x2:=hcell HG
 have HS:=Lib.hid x2
 clear hat
 go_wp2_with (first
  | (go_at_call 17;((with_reducible first|refine (hl1 _ HG).mono ?_|refine (hl2 _ HG).mono ?_);rintro e6 w6 ⟨rfl,hg6⟩;replace HG:=grown_trans HG hg6;have x2:=hcell HG;replace HS:=Lib.hid x2))
  | (go_at_call 20;((with_reducible refine (hg2 _ HG).mono ?_);rintro e8 w8 ⟨rfl,R8,f8,b8,F8,K8⟩;obtain ⟨_,cur,hgg⟩:=row_block (O5.later HG) rfl;have HK8:=K8.far hgg (by decide) (by decide);have x2:=(show w8.cell? ⟨g,2,none⟩=some (.bool false) from (World.cell?_of_block (a:=⟨g,2,none⟩) (HK8.trans hgg.symm)).trans (hcell HG));replace HS:=Lib.hid x2;have hs8:=hsz _ _ _ _ _ _ F8.heap))
  | (go_at_call 22;((with_reducible refine hs8.mono ?_);rintro e9 w9 ⟨rfl,hg9⟩;have x2:=(show w9.cell? ⟨g,2,none⟩=some (.bool false) from (World.cell?_of_block (a:=⟨g,2,none⟩) (hg9.block g (lt_of_block HK8) (by simp))).trans HS.out);replace HS:=Lib.hid x2)))
 go_ret
 exact ⟨rfl,grown_trans hg0 (grown_trans F8.heap.since hg9)⟩
end Go.Proofs.YtcbdbflgfhbikaaGreat
