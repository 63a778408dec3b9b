/-
  Package resize: Resize and move, step by step: what each of their calls leaves, they leave.
  Conditions: as said at each.
-/
import Derived.Test.YtcbdbflgfhbikaaGreatResH
namespace Go.Proofs.YtcbdbflgfhbikaaGreat
open Go.RowKit
set_option linter.unusedVariables false
set_option linter.unusedSimpArgs false
set_option maxRecDepth 100000

section
variable {w0 w w':World} {T:Nat} {R:Option Nat} {ws:List Nat} {E O S N p q c d m n need:Nat} {o:Int} {G1 G2 G3:World→Option Nat→Prop}
set_option maxHeartbeats 4000000 in
theorem rzin_walk (hR:∀ g,R=some g→g<w.heap.size) (hn:need≤S∧O<1000000)
  (hfind:∀ V,w.grownBy V none→Calls Tryz.prog 14 #[.pointer (some ⟨T,0,none⟩),.int .u64 (p:Nat)] V fun e w'=>e=.returned (.tuple #[.agg #[.int .u64 (O:Nat),.int .u64 (S:Nat),.bool true,.int .i64 o,.int .u64 (N:Nat)],.bool true])∧V.grownBy w' none)
  (hneed:∀ V,Calls Tryz.prog 29 #[.int .u64 (n:Nat)] V fun e w'=>e=.returned (.tuple #[.int .u64 (need:Nat),.bool true])∧V=w')
  (hwc:∀ V,Calls Tryz.prog 32 #[.int .u64 (N:Nat)] V fun e w'=>e=.returned (.int .u64 (c:Nat))∧V=w')
  (hwd:∀ V,Calls Tryz.prog 32 #[.int .u64 (n:Nat)] V fun e w'=>e=.returned (.int .u64 (d:Nat))∧V=w')
  (hst:∀ V,w.grownBy V none→Calls Tryz.prog 16 #[.pointer (some ⟨T,0,none⟩),.int .u64 (O+8:Nat),.int .u64 (n:Nat)] V fun e w'=>e=.returned (.tuple #[])∧∃ R',G1 w' R'∧Keep V R w' R')
  (hea:∀ V R1 tb pb,G1 V R1→V.heap[tb]?=some (.cells #[.pointer (some ⟨T,0,none⟩)] 25 (0,0))→Box V R1 pb p→Calls Tryz.prog 31 #[.int .u64 (c:Nat),.int .u64 (d:Nat),.func (.func 33) #[] #[.pointer (some ⟨tb,0,none⟩),.pointer (some ⟨pb,0,none⟩)]] V fun e w'=>e=.returned (.tuple #[])∧∃ R',G2 w' R'∧Keep V R1 w' R')
  (hcut:∀ V R1,G2 V R1→Calls Tryz.prog 34 #[.pointer (some ⟨T,0,none⟩),.int .u64 (p:Nat),.int .u64 (need:Nat)] V fun e w'=>e=.returned (.int .i64 0)∧∃ R',G3 w' R'∧Keep V R1 w' R') :
  Calls Tryz.prog 10 #[.pointer (some ⟨T,0,none⟩),.int .u64 (p:Nat),.int .u64 (n:Nat)] w fun e w'=>e=.returned (.tuple #[.int .u64 (p:Nat),.int .i64 0])∧∃ R',G3 w' R'∧Keep w R w' R':=by
 have e8:IntKind.u64.wrap ((O:Int)+8)=((O+8:Nat):Int):=by rw [IntKind.wrap_u64];omega
 have hle:¬ (S:Int)<(need:Int):=by omega
 obtain ⟨o8,eo8⟩:∃ o8,O+8=o8:=⟨_,rfl⟩
 rw [eo8] at hst e8
 have gA:w.grownBy ((w.alloc (.cells #[.pointer (some ⟨T,0,none⟩)] 25)).alloc (.cells #[.int .u64 (p:Nat)] 23)) none:=grown_trans (World.grownBy_alloc _ _ _) (World.grownBy_alloc _ _ _)
 have hb0:((w.alloc (.cells #[.pointer (some ⟨T,0,none⟩)] 25)).alloc (.cells #[.int .u64 (p:Nat)] 23)).heap[w.heap.size]?=some (.cells #[.pointer (some ⟨T,0,none⟩)] 25 (0,0)):=(Below.heap_alloc _ _ _ (by simp)).trans (heap_alloc_new' w _)
 have hb1:((w.alloc (.cells #[.pointer (some ⟨T,0,none⟩)] 25)).alloc (.cells #[.int .u64 (p:Nat)] 23)).heap[w.heap.size+1]?=some (.cells #[.int .u64 (p:Nat)] 23 (0,0)):=by
  have:=heap_alloc_new' (w.alloc (.cells #[.pointer (some ⟨T,0,none⟩)] 25)) (.cells #[.int .u64 (p:Nat)] 23)
  rwa [World.size_alloc] at this
 have HB1:Box _ R (w.heap.size+1) p:=Box.of hb1 fun g e=>by have:=hR g e;omega
 have HB0:=Lib.hid hb0
 have HBX:=Lib.hid HB1
 have HST:=Lib.hid hst
 have HEA:=Lib.hid hea
 have HCUT:=Lib.hid hcut
 have HWC:=Lib.hid hwc
 have HWD:=Lib.hid hwd
 have HNEED:=Lib.hid hneed
 have HFIND:=Lib.hid hfind
 have GA:=Lib.hid gA
 have hf1:=hfind _ gA
 clear hst hea hcut hwc hwd hneed hfind eo8 hn hR hb0 hb1 HB1 gA
 go_enter Tryz.func10,Tryz.ntmps10
 go_wp2_with (first
  | (go_at_call 14;(with_reducible refine hf1.mono ?_);rintro e w1 ⟨rfl,hg1⟩;have ga:=World.grownBy_alloc w1 (.cells #[.int .u64 (O:Nat),.int .u64 (S:Nat),.bool true,.int .i64 o,.int .u64 (N:Nat)] 45) none;have ba:=heap_alloc_new' w1 (.cells #[.int .u64 (O:Nat),.int .u64 (S:Nat),.bool true,.int .i64 o,.int .u64 (N:Nat)] 45);obtain ⟨d0,d1,d2,d3,d4⟩:=five_cells ba;have HA:=Lib.hid ba;clear ba;have K1:=Keep.of_grown (R:=R) (grown_trans hg1 ga);have t1:=cell_of_one (K1.far HB0.out (by decide) (by decide));have p1:=(HBX.out.step K1).cell;have hs1:=HST.out _ (grown_trans GA.out (grown_trans hg1 ga)))
  | (go_at_call 29;(with_reducible refine (HNEED.out _).mono ?_);rintro e w2 ⟨rfl,rfl⟩)
  | (go_at_call 16;(with_reducible refine hs1.mono ?_);rintro e w3 ⟨rfl,R3,G3',kp3⟩;have b3:=kp3.far HA.out (by decide) (by decide);obtain ⟨d0,d1,d2,d3,d4⟩:=five_cells b3;have K3:=K1.trans kp3;have t3:=K3.far HB0.out (by decide) (by decide);have q3:=HBX.out.step K3;have he3:=HEA.out _ _ _ _ G3' t3 q3;have T3:=cell_of_one t3;have P3:=q3.cell;have HQ3:=Lib.hid q3;clear b3 t3 q3)
  | (go_at_call 32;(with_reducible refine (HWC.out _).mono ?_);rintro e w4 ⟨rfl,rfl⟩)
  | (go_at_call 32;(with_reducible refine (HWD.out _).mono ?_);rintro e w4 ⟨rfl,rfl⟩)
  | (go_at_call 31;(with_reducible refine he3.mono ?_);rintro e w5 ⟨rfl,R5,G5',kp5⟩;have K5:=K3.trans kp5;have T5:=cell_of_one (K5.far HB0.out (by decide) (by decide));have P5:=(HBX.out.step K5).cell;have hc5:=HCUT.out _ _ G5')
  | (go_at_call 34;(with_reducible refine hc5.mono ?_);rintro e w6 ⟨rfl,R6,G6',kp6⟩;have K6:=K5.trans kp6;have P6:=(HBX.out.step K6).cell))
 go_ret2
 exact ⟨rfl,R6,G6',(Keep.of_grown GA.out).trans K6⟩
theorem rz_none (hfind:∀ V,w.grownBy V none→Calls Tryz.prog 14 #[.pointer (some ⟨T,0,none⟩),.int .u64 (p:Nat)] V fun e w'=>e=.returned (.tuple #[.agg #[.int .u64 0,.int .u64 0,.bool false,.int .i64 0,.int .u64 0],.bool false])∧V.grownBy w' none) :
  Calls Tryz.prog 10 #[.pointer (some ⟨T,0,none⟩),.int .u64 (p:Nat),.int .u64 (n:Nat)] w fun e w'=>e=.returned (.tuple #[.int .u64 0,.int .i64 4])∧w.grownBy w' none:=by
 have gA:w.grownBy ((w.alloc (.cells #[.pointer (some ⟨T,0,none⟩)] 25)).alloc (.cells #[.int .u64 (p:Nat)] 23)) none:=grown_trans (World.grownBy_alloc _ _ _) (World.grownBy_alloc _ _ _)
 have hf1:=hfind _ gA
 have HGA:=Lib.hid gA
 clear hfind gA
 go_enter Tryz.func10,Tryz.ntmps10
 go_wp2_with (first|(go_at_call 14;(with_reducible refine hf1.mono ?_);rintro e w1 ⟨rfl,hg1⟩))
 go_ret2
 exact ⟨rfl,grown_trans (grown_trans HGA.out hg1) (World.grownBy_alloc _ _ _)⟩
theorem rz_size (hfind:∀ V,w.grownBy V none→Calls Tryz.prog 14 #[.pointer (some ⟨T,0,none⟩),.int .u64 (p:Nat)] V fun e w'=>e=.returned (.tuple #[.agg #[.int .u64 (O:Nat),.int .u64 (S:Nat),.bool true,.int .i64 o,.int .u64 (N:Nat)],.bool true])∧V.grownBy w' none)
  (hneed:∀ V,Calls Tryz.prog 29 #[.int .u64 (n:Nat)] V fun e w'=>e=.returned (.tuple #[.int .u64 0,.bool false])∧V=w') :
  Calls Tryz.prog 10 #[.pointer (some ⟨T,0,none⟩),.int .u64 (p:Nat),.int .u64 (n:Nat)] w fun e w'=>e=.returned (.tuple #[.int .u64 0,.int .i64 2])∧w.grownBy w' none:=by
 have gA:w.grownBy ((w.alloc (.cells #[.pointer (some ⟨T,0,none⟩)] 25)).alloc (.cells #[.int .u64 (p:Nat)] 23)) none:=grown_trans (World.grownBy_alloc _ _ _) (World.grownBy_alloc _ _ _)
 have hf1:=hfind _ gA
 have HGA:=Lib.hid gA
 have HNEED:=Lib.hid hneed
 clear hfind gA hneed
 go_enter Tryz.func10,Tryz.ntmps10
 go_wp2_with (first
  | (go_at_call 14;(with_reducible refine hf1.mono ?_);rintro e w1 ⟨rfl,hg1⟩)
  | (go_at_call 29;(with_reducible refine (HNEED.out _).mono ?_);rintro e w2 ⟨rfl,rfl⟩))
 go_ret2
 exact ⟨rfl,grown_trans (grown_trans HGA.out hg1) (World.grownBy_alloc _ _ _)⟩
set_option maxHeartbeats 4000000 in
theorem rzout_walk {q er:Nat} (hn:S<need)
  (hfind:∀ V,w.grownBy V none→Calls Tryz.prog 14 #[.pointer (some ⟨T,0,none⟩),.int .u64 (p:Nat)] V fun e w'=>e=.returned (.tuple #[.agg #[.int .u64 (O:Nat),.int .u64 (S:Nat),.bool true,.int .i64 o,.int .u64 (N:Nat)],.bool true])∧V.grownBy w' none)
  (hneed:∀ V,Calls Tryz.prog 29 #[.int .u64 (n:Nat)] V fun e w'=>e=.returned (.tuple #[.int .u64 (need:Nat),.bool true])∧V=w')
  (hmove:∀ V,w.grownBy V none→Calls Tryz.prog 30 #[.pointer (some ⟨T,0,none⟩),.agg #[.int .u64 (O:Nat),.int .u64 (S:Nat),.bool true,.int .i64 o,.int .u64 (N:Nat)],.int .u64 (n:Nat)] V fun e w'=>e=.returned (.tuple #[.int .u64 (q:Nat),.int .i64 (er:Nat)])∧∃ R',G1 w' R'∧Keep V R w' R') :
  Calls Tryz.prog 10 #[.pointer (some ⟨T,0,none⟩),.int .u64 (p:Nat),.int .u64 (n:Nat)] w fun e w'=>e=.returned (.tuple #[.int .u64 (q:Nat),.int .i64 (er:Nat)])∧∃ R',G1 w' R'∧Keep w R w' R':=by
 have hlt:(S:Int)<(need:Int):=by omega
 have gA:w.grownBy ((w.alloc (.cells #[.pointer (some ⟨T,0,none⟩)] 25)).alloc (.cells #[.int .u64 (p:Nat)] 23)) none:=grown_trans (World.grownBy_alloc _ _ _) (World.grownBy_alloc _ _ _)
 have hb0:((w.alloc (.cells #[.pointer (some ⟨T,0,none⟩)] 25)).alloc (.cells #[.int .u64 (p:Nat)] 23)).heap[w.heap.size]?=some (.cells #[.pointer (some ⟨T,0,none⟩)] 25 (0,0)):=(Below.heap_alloc _ _ _ (by simp)).trans (heap_alloc_new' w _)
 have HB0:=Lib.hid hb0
 have HMOVE:=Lib.hid hmove
 have HNEED:=Lib.hid hneed
 have GA:=Lib.hid gA
 have hf1:=hfind _ gA
 clear hmove hneed hfind hn hb0 gA
 go_enter Tryz.func10,Tryz.ntmps10
 go_wp2_with (first
  | (go_at_call 14;(with_reducible refine hf1.mono ?_);rintro e w1 ⟨rfl,hg1⟩;have ga:=World.grownBy_alloc w1 (.cells #[.int .u64 (O:Nat),.int .u64 (S:Nat),.bool true,.int .i64 o,.int .u64 (N:Nat)] 45) none;have ba:=heap_alloc_new' w1 (.cells #[.int .u64 (O:Nat),.int .u64 (S:Nat),.bool true,.int .i64 o,.int .u64 (N:Nat)] 45);obtain ⟨d0,d1,d2,d3,d4⟩:=five_cells ba;clear ba;have gg:=grown_trans hg1 ga;have t1:=cell_of_one ((gg.block _ (lt_of_block HB0.out) (by simp)).trans HB0.out);have hm1:=HMOVE.out _ (grown_trans GA.out gg))
  | (go_at_call 29;(with_reducible refine (HNEED.out _).mono ?_);rintro e w2 ⟨rfl,rfl⟩)
  | (go_at_call 30;(with_reducible refine hm1.mono ?_);rintro e w3 ⟨rfl,R3,G3',kp3⟩))
 go_ret2
 exact ⟨rfl,R3,G3',(Keep.of_grown (grown_trans GA.out gg)).trans kp3⟩
set_option maxHeartbeats 4000000 in
theorem move_no {er:Nat} (her:er≠0) (hp:p=O+32) (hO:O<1000000)
  (htake:∀ V,w.grownBy V none→Calls Tryz.prog 64 #[.pointer (some ⟨T,0,none⟩),.int .i64 o,.int .u64 (n:Nat),.int .u64 16] V fun e w'=>e=.returned (.tuple #[.int .u64 0,.int .i64 (er:Nat)])∧∃ R',G1 w' R'∧Keep V R w' R')
  (hlater:∀ V V' R1,G1 V R1→V.grownBy V' none→G1 V' R1) :
  Calls Tryz.prog 30 #[.pointer (some ⟨T,0,none⟩),.agg #[.int .u64 (O:Nat),.int .u64 (S:Nat),.bool true,.int .i64 o,.int .u64 (N:Nat)],.int .u64 (n:Nat)] w fun e w'=>e=.returned (.tuple #[.int .u64 0,.int .i64 (er:Nat)])∧∃ R',G1 w' R'∧Keep w R w' R':=by
 have e32:IntKind.u64.wrap ((O:Int)+32)=((p:Nat):Int):=by rw [IntKind.wrap_u64];omega
 have hne:¬ (er:Int)=0:=by omega
 have gW:w.grownBy (((w.alloc (.cells #[.pointer (some ⟨T,0,none⟩)] 25)).alloc (.cells #[.int .u64 (O:Nat),.int .u64 (S:Nat),.bool true,.int .i64 o,.int .u64 (N:Nat)] 45)).alloc (.cells #[.int .u64 (p:Nat)] 23)) none:=grown_trans (World.grownBy_alloc _ _ _) (grown_trans (World.grownBy_alloc _ _ _) (World.grownBy_alloc _ _ _))
 have ht:=htake _ gW
 have GW:=Lib.hid gW
 have HLATER:=Lib.hid hlater
 clear htake hp hO her gW hlater
 go_enter Tryz.func30,Tryz.ntmps30
 go_wp2_with (first
  | (go_at_call 64;(with_reducible refine ht.mono ?_);rintro e w1 ⟨rfl,R1,G1',kp1⟩))
 go_ret2
 have ga:=World.grownBy_alloc w1 (.cells #[.int .u64 0] 23) none
 exact ⟨rfl,R1,HLATER.out _ _ _ G1' ga,(Keep.of_grown GW.out).trans (kp1.trans (Keep.of_grown ga))⟩
set_option maxHeartbeats 4000000 in
theorem move_ok (hR:∀ g,R=some g→g<w.heap.size) (hp:p=O+32) (hO:O<1000000)
  (htake:∀ V,w.grownBy V none→Calls Tryz.prog 64 #[.pointer (some ⟨T,0,none⟩),.int .i64 o,.int .u64 (n:Nat),.int .u64 16] V fun e w'=>e=.returned (.tuple #[.int .u64 (q:Nat),.int .i64 0])∧∃ R',G1 w' R'∧Keep V R w' R')
  (hlater:∀ V V' R1,G1 V R1→V.grownBy V' none→G1 V' R1) (hltR:∀ V R1,G1 V R1→∀ g,R1=some g→g<V.heap.size)
  (hwd:∀ V,Calls Tryz.prog 32 #[.int .u64 (N:Nat)] V fun e w'=>e=.returned (.int .u64 (m:Nat))∧V=w')
  (hea:∀ V R1 tb qb pb,G1 V R1→V.heap[tb]?=some (.cells #[.pointer (some ⟨T,0,none⟩)] 25 (0,0))→Box V R1 pb p→Box V R1 qb q→Calls Tryz.prog 31 #[.int .u64 0,.int .u64 (m:Nat),.func (.func 67) #[] #[.pointer (some ⟨tb,0,none⟩),.pointer (some ⟨qb,0,none⟩),.pointer (some ⟨pb,0,none⟩)]] V fun e w'=>e=.returned (.tuple #[])∧∃ R',G2 w' R'∧Keep V R1 w' R')
  (hfree:∀ V R1,G2 V R1→Calls Tryz.prog 65 #[.pointer (some ⟨T,0,none⟩),.int .u64 (p:Nat)] V fun e w'=>e=.returned (.int .i64 0)∧∃ R',G3 w' R'∧Keep V R1 w' R') :
  Calls Tryz.prog 30 #[.pointer (some ⟨T,0,none⟩),.agg #[.int .u64 (O:Nat),.int .u64 (S:Nat),.bool true,.int .i64 o,.int .u64 (N:Nat)],.int .u64 (n:Nat)] w fun e w'=>e=.returned (.tuple #[.int .u64 (q:Nat),.int .i64 0])∧∃ R',G3 w' R'∧Keep w R w' R':=by
 have e32:IntKind.u64.wrap ((O:Int)+32)=((p:Nat):Int):=by rw [IntKind.wrap_u64];omega
 have gA:=World.grownBy_alloc w (.cells #[.pointer (some ⟨T,0,none⟩)] 25) none
 have gB:=World.grownBy_alloc (w.alloc (.cells #[.pointer (some ⟨T,0,none⟩)] 25)) (.cells #[.int .u64 (O:Nat),.int .u64 (S:Nat),.bool true,.int .i64 o,.int .u64 (N:Nat)] 45) none
 have gC:=World.grownBy_alloc ((w.alloc (.cells #[.pointer (some ⟨T,0,none⟩)] 25)).alloc (.cells #[.int .u64 (O:Nat),.int .u64 (S:Nat),.bool true,.int .i64 o,.int .u64 (N:Nat)] 45)) (.cells #[.int .u64 (p:Nat)] 23) none
 have gW:w.grownBy (((w.alloc (.cells #[.pointer (some ⟨T,0,none⟩)] 25)).alloc (.cells #[.int .u64 (O:Nat),.int .u64 (S:Nat),.bool true,.int .i64 o,.int .u64 (N:Nat)] 45)).alloc (.cells #[.int .u64 (p:Nat)] 23)) none:=grown_trans gA (grown_trans gB gC)
 have hb0:(((w.alloc (.cells #[.pointer (some ⟨T,0,none⟩)] 25)).alloc (.cells #[.int .u64 (O:Nat),.int .u64 (S:Nat),.bool true,.int .i64 o,.int .u64 (N:Nat)] 45)).alloc (.cells #[.int .u64 (p:Nat)] 23)).heap[w.heap.size]?=some (.cells #[.pointer (some ⟨T,0,none⟩)] 25 (0,0)):=((grown_trans gB gC).block _ (lt_of_block (heap_alloc_new' w (.cells #[.pointer (some ⟨T,0,none⟩)] 25))) (by simp)).trans (heap_alloc_new' w (.cells #[.pointer (some ⟨T,0,none⟩)] 25))
 have hb1:(((w.alloc (.cells #[.pointer (some ⟨T,0,none⟩)] 25)).alloc (.cells #[.int .u64 (O:Nat),.int .u64 (S:Nat),.bool true,.int .i64 o,.int .u64 (N:Nat)] 45)).alloc (.cells #[.int .u64 (p:Nat)] 23)).heap[w.heap.size+1]?=some (.cells #[.int .u64 (O:Nat),.int .u64 (S:Nat),.bool true,.int .i64 o,.int .u64 (N:Nat)] 45 (0,0)):=by
  have h1:=heap_alloc_new' (w.alloc (.cells #[.pointer (some ⟨T,0,none⟩)] 25)) (.cells #[.int .u64 (O:Nat),.int .u64 (S:Nat),.bool true,.int .i64 o,.int .u64 (N:Nat)] 45)
  have:=(gC.block _ (lt_of_block h1) (by simp)).trans h1
  rwa [World.size_alloc] at this
 have hb2:(((w.alloc (.cells #[.pointer (some ⟨T,0,none⟩)] 25)).alloc (.cells #[.int .u64 (O:Nat),.int .u64 (S:Nat),.bool true,.int .i64 o,.int .u64 (N:Nat)] 45)).alloc (.cells #[.int .u64 (p:Nat)] 23)).heap[w.heap.size+1+1]?=some (.cells #[.int .u64 (p:Nat)] 23 (0,0)):=by
  have:=heap_alloc_new' ((w.alloc (.cells #[.pointer (some ⟨T,0,none⟩)] 25)).alloc (.cells #[.int .u64 (O:Nat),.int .u64 (S:Nat),.bool true,.int .i64 o,.int .u64 (N:Nat)] 45)) (.cells #[.int .u64 (p:Nat)] 23)
  rwa [World.size_alloc,World.size_alloc] at this
 have HB2:Box _ R (w.heap.size+1+1) p:=Box.of hb2 fun g e=>by have:=hR g e;omega
 have ht:=htake _ gW
 have HB0:=Lib.hid hb0
 have HB1:=Lib.hid hb1
 have HBX:=Lib.hid HB2
 have HEA:=Lib.hid hea
 have HWD:=Lib.hid hwd
 have HFREE:=Lib.hid hfree
 have HLATER:=Lib.hid hlater
 have HLTR:=Lib.hid hltR
 have GW:=Lib.hid gW
 clear htake hlater hltR hwd hea hfree hp hO hR gA gB gC gW hb0 hb1 hb2 HB2
 go_enter Tryz.func30,Tryz.ntmps30
 go_wp2_with (first
  | (go_at_call 64;(with_reducible refine ht.mono ?_);rintro e w1 ⟨rfl,R1,G1',kp1⟩;have ga:=World.grownBy_alloc w1 (.cells #[.int .u64 (q:Nat)] 23) none;have bq:=heap_alloc_new' w1 (.cells #[.int .u64 (q:Nat)] 23);have K1:=kp1.trans (Keep.of_grown ga);have t1:=K1.far HB0.out (by decide) (by decide);have b1:=K1.far HB1.out (by decide) (by decide);have p1:=HBX.out.step K1;have q1:Box _ R1 w1.heap.size q:=Box.of bq fun g e=>by { have:=HLTR.out _ _ G1' g e;omega };have he1:=HEA.out _ _ _ _ _ (HLATER.out _ _ _ G1' ga) t1 p1 q1;obtain ⟨d0,d1,d2,d3,d4⟩:=five_cells b1;have T1:=cell_of_one t1;have P1:=p1.cell;have Q1:=q1.cell;have HQ1:=Lib.hid q1;clear t1 b1 p1 q1 bq)
  | (go_at_call 32;(with_reducible refine (HWD.out _).mono ?_);rintro e w4 ⟨rfl,rfl⟩)
  | (go_at_call 31;(with_reducible refine he1.mono ?_);rintro e w5 ⟨rfl,R5,G5',kp5⟩;have K5:=K1.trans kp5;have T5:=cell_of_one (K5.far HB0.out (by decide) (by decide));have P5:=(HBX.out.step K5).cell;have q5:=HQ1.out.step kp5;have Q5:=q5.cell;have HQ5:=Lib.hid q5;clear q5;have hf5:=HFREE.out _ _ G5')
  | (go_at_call 65;(with_reducible refine hf5.mono ?_);rintro e w6 ⟨rfl,R6,G6',kp6⟩;have K6:=K5.trans kp6;have Q6:=(HQ5.out.step kp6).cell))
 go_ret2
 exact ⟨rfl,R6,G6',(Keep.of_grown GW.out).trans K6⟩
end
end Go.Proofs.YtcbdbflgfhbikaaGreat
