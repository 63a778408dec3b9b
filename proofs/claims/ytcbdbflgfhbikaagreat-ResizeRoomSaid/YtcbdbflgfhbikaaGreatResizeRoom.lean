/-
  What didn't fit fits when the heap has grown; what stood there stands there still. The statement ResizeRoom; no condition.
-/
import Derived.Test.YtcbdbflgfhbikaaGreatLRse
import Derived.Test.YtcbdbflgfhbikaaGreatResR
import Derived.Test.YtcbdbflgfhbikaaGreatLCal
import Derived.Test.YtcbdbflgfhbikaaGreatLTxa
import Derived.Laws.StructEq
import Derived.BigQuiet
import Derived.Deep.RegionHeld3
namespace Go.Proofs.YtcbdbflgfhbikaaGreat.resizeRoom
open Go.ChangeShapes Go.WideShapes Go.ChangeAt Go.RowKit
set_option linter.unusedVariables false
set_option linter.unusedSimpArgs false
set_option maxRecDepth 100000

section
variable {w0 w:World} {T:Nat} {R:Option Nat} {ws:List Nat} {E i k p n:Nat} {bs:List Blk} {L:Nat→List Nat} {f:Nat→Nat}
theorem mem_grB {b:Blk} (hb:b∈bs) (hu:b.u=true):b∈grB bs E n:=by
 unfold grB
 refine List.mem_append_left _ ?_
 rcases left_cases bs E with ⟨e1,_⟩|⟨X,q,e0,hq,e1,_⟩
 ·rw [e1];exact hb
 ·rw [e1]
  rw [e0] at hb
  rcases List.mem_append.1 hb with h1|h1
  ·exact h1
  ·rw [List.mem_singleton.1 h1,hq] at hu;cases hu
theorem grB_mem {b:Blk} (hb:b∈grB bs E n) (hu:b.u=true):b∈bs:=by
 unfold grB at hb
 rcases List.mem_append.1 hb with h1|h1
 ·rcases left_cases bs E with ⟨e1,_⟩|⟨X,q,e0,hq,e1,_⟩
  ·rw [e1] at h1;exact h1
  ·rw [e1] at h1;rw [e0];exact List.mem_append_left _ h1
 ·rw [List.mem_singleton.1 h1] at hu;cases hu
/-- behind Grow each used block is found as it was, and no free one -/
theorem found_grown {w1 w2:World} {T2:Nat} {R2:Option Nat} {ws2:List Nat} {L2:Nat→List Nat} {G:Nat} (h:HW w0 w T R ws E bs L) (hk:k<bs.length) (h2:HW w1 w2 T2 R2 ws2 G (grB bs E n) L2) :
  (gU bs k=true→Calls Tryz.prog 14 #[.pointer (some ⟨T2,0,none⟩),.int .u64 (gO bs k+32:Nat)] w2 fun e w'=>e=.returned (.tuple #[.agg #[.int .u64 (gO bs k:Nat),.int .u64 (gS bs k:Nat),.bool true,.int .i64 (gW bs k),.int .u64 (gN bs k:Nat)],.bool true])∧w2.grownBy w' none) ∧
  (gU bs k=false→Calls Tryz.prog 14 #[.pointer (some ⟨T2,0,none⟩),.int .u64 (gO bs k+32:Nat)] w2 fun e w'=>e=.returned (.tuple #[.agg #[.int .u64 0,.int .u64 0,.bool false,.int .i64 0,.int .u64 0],.bool false])∧w2.grownBy w' none):=by
 have hm:=getB_mem hk
 constructor
 ·intro hu
  have:=hw_find_used h2 (mem_grB hm hu) hu
  unfold Blk.val at this
  rw [show (bs.getD k default).u=true from hu] at this
  exact this
 ·intro hu
  obtain ⟨_,_,_,_,_,_,hs⟩:=h
  refine hw_find_none h2 (fstN_not fun j hj=>?_)
  obtain ⟨_,_,_,_,_,_,hs2⟩:=h2
  have hm2:=getB_mem hj
  unfold pF
  cases e:((grB bs E n).getD j default).u with
  | false=>rfl
  | true =>
   have h3:=grB_mem hm2 e
   have h4:=(hs2.told.is _ hm2).hi
   have h5:=hs2.low
   have h6:=hs.told.is _ hm
   have hne:((grB bs E n).getD j default).off≠(bs.getD k default).off:=fun e2=>by
    have:=hs.told.one h3 hm e2
    rw [this] at e
    rw [show (bs.getD k default).u=false from hu] at e
    cases e
   show (true && decide ((((grB bs E n).getD j default).off+32) % 18446744073709551616=gO bs k+32))=false
   rw [Bool.true_and]
   exact decide_eq_false fun e2=>by
    unfold gO at e2
    omega
theorem fits_grown (h:HW w0 w T R ws E bs L) (hn:n≤200):fitM (grB bs E (needOf n)) n 16≠none:=by
 obtain ⟨_,_,_,_,_,_,hs⟩:=h
 obtain ⟨t1,t2,t3,t4,t5,t6⟩:=grow_low hs
 refine fit_some (b:=freeB (lowA bs E) (addA bs+needOf n)) (by unfold grB;simp) rfl t3 ?_
 show needOf n≤addA bs+needOf n
 omega
end
set_option maxHeartbeats 8000000 in
theorem core {w:World} {la:Option Addr} {n c:Nat} {X O A N:Nat→Nat} (hp:DoneAt w la n X O A N) (hn:n≤maxLen) {m:Nat} (hm:m<65536) :
  Calls Tryz.prog 6 #[.slice la n c,.int .u16 m] w fun e w'=>e=.returned (.bool true)∧w.grownBy w' none:=by
 obtain ⟨E,bs,L,hE,hpl⟩:=plays12 (c:=c) hp hn
 have t200:(m:Int).tmod 200=((m % 200:Nat):Int):=by rw [Int.tmod_eq_emod_of_nonneg (by omega)];omega
 have b200:m % 200<200:=Nat.mod_lt _ (by decide)
 obtain ⟨m2,em2⟩:∃ m2,m % 200=m2:=⟨_,rfl⟩
 rw [em2] at t200 b200
 have wm:IntKind.u64.wrap (m2:Int)=(m2:Nat):=by rw [IntKind.wrap_u64];omega
 have hnd:=rneed_fits m2 (by omega)
 have hnb:=need_bounds m2
 have hgE:grE E (needOf m2)=0:=by
  unfold grE
  rw [if_neg (by omega),if_neg (by omega)]
 have hgr:=fun (V W:World) (T:Nat) (R:Option Nat) (f:Nat→Nat) (h:HF V W T R (fmt48 4480) E bs L f)=>gr_hf h (needOf m2) (by omega)
 have hfg:=fun (V W V2 W2:World) (T T2:Nat) (R R2:Option Nat) (G k:Nat) (h:HW V W T R (fmt48 4480) E bs L) (hk:k<bs.length) (h2:HW V2 W2 T2 R2 (fmt48 4480) G (grB bs E (needOf m2)) L)=>found_grown h hk h2
 have hft2:=fun (V W V2 W2:World) (T T2:Nat) (R R2:Option Nat) (G:Nat) (h:HW V W T R (fmt48 4480) E bs L) (h2:HW V2 W2 T2 R2 (fmt48 4480) G (grB bs E (needOf m2)) L)=>(show ∃ x y z:Nat,Calls Tryz.prog 19 #[.pointer (some ⟨T2,0,none⟩),.int .u64 m2,.int .u64 16] W2 fun e w'=>e=.returned (.tuple #[.agg #[.int .u64 x,.int .u64 y,.int .u64 z],.int .i64 0])∧W2.grownBy w' none by
  cases hq:fitM (grB bs E (needOf m2)) m2 16 with
  | none=>exact absurd hq (fits_grown h (by omega))
  | some j=>exact ⟨_,_,_,hw_fit_ok h2 (.inl rfl) (by omega) hq⟩)
 have hgG:IntKind.u64.wrap (4480+(needOf m2:Int))=((E+needOf m2:Nat):Int):=by rw [IntKind.wrap_u64];omega
 rw [hgE] at hgr
 obtain ⟨nd,hnd'⟩:∃ nd,needOf m2=nd:=⟨_,rfl⟩
 rw [hnd'] at hnd hgr hgG
 simp only [hnd'] at hfg hft2
 obtain ⟨G,hG⟩:∃ G,E+nd=G:=⟨_,rfl⟩
 rw [hG] at hgr hgG
 obtain ⟨bs2,hbs2⟩:∃ x,grB bs E nd=x:=⟨_,rfl⟩
 rw [hbs2] at hgr
 simp only [hbs2] at hfg hft2
 have eG:((G:Int) == (G:Int))=true:=by simp
 have hft1:(∃ x y z:Nat,∀ (V W:World) (T:Nat) (R:Option Nat),HW V W T R (fmt48 4480) E bs L→Calls Tryz.prog 19 #[.pointer (some ⟨T,0,none⟩),.int .u64 m2,.int .u64 16] W fun e w'=>e=.returned (.tuple #[.agg #[.int .u64 x,.int .u64 y,.int .u64 z],.int .i64 0])∧W.grownBy w' none)∨(∃ x y z:Nat,∀ (V W:World) (T:Nat) (R:Option Nat),HW V W T R (fmt48 4480) E bs L→Calls Tryz.prog 19 #[.pointer (some ⟨T,0,none⟩),.int .u64 m2,.int .u64 16] W fun e w'=>e=.returned (.tuple #[.agg #[.int .u64 x,.int .u64 y,.int .u64 z],.int .i64 3])∧W.grownBy w' none):=by
  cases hq:fitM bs m2 16 with
  | some j=>exact .inl ⟨_,_,_,fun V W T R h=>hw_fit_ok h (.inl rfl) (by omega) hq⟩
  | none=>exact .inr ⟨0,0,0,fun V W T R h=>hw_fit_bad h (by omega) (by decide) (fitErr_none (.inl rfl) (by omega) hq) (by decide)⟩
 clear hE em2 hnb hgE hnd' hG hbs2 b200
 rcases hft1 with ⟨f1,f2,f3,hft1⟩|⟨f1,f2,f3,hft1⟩
 all_goals
  go_enter Tryz.func6,Tryz.ntmps6
  go_wp2_with (first
   | (go_at_call 8;((with_reducible refine (awake12 _).mono ?_);rintro e w1 ⟨rfl,hg1⟩))
   | (go_at_call 9;((with_reducible refine (hpl _ hg1).mono ?_);rintro e w2 ⟨T,R,l1,n1,c1,va,ln,vc,rfl,H2,V2,hn1⟩;replace hn1:=Lib.hid hn1;have ga2:=World.grownBy_alloc w2 (.cells (hC E l1 n1 c1 va ln vc) 30) none;have HB2:=Lib.hid (heap_alloc_new' w2 (.cells (hC E l1 n1 c1 va ln vc) 30));have H3:=H2.later ga2;have V3:=V2.later ga2;obtain ⟨⟨d0,d1,d2,d3,d4,d5,d6,d7,d8,d9⟩,_⟩:=ten_cells HB2.out;have hfit1:=hft1 _ _ _ _ H3))
   | (go_at_call 18;((with_reducible refine (hnd _).mono ?_);rintro e4 w4 ⟨rfl,rfl⟩))
   | (go_at_call 19;((with_reducible refine hfit1.mono ?_);rintro e5 w5 ⟨rfl,hg5'⟩;have hg5:=grown_trans hg5' (World.grownBy_alloc w5 (.cells #[.int .u64 f1,.int .u64 f2,.int .u64 f3] 55) none);obtain ⟨f,F5⟩:=(H3.later hg5).see;have B5:=(hg5.block _ (lt_of_block HB2.out) (by simp)).trans HB2.out;have HB5:=Lib.hid B5;clear B5;have hgr1:=hgr _ _ _ _ _ F5))
   | (go_at_call 20;((with_reducible refine hgr1.mono ?_);rintro e6 w6 ⟨rfl,_,h6⟩;obtain ⟨R6,f6,F6,_,K6⟩:=h6 (by trivial);have HB6:=Lib.hid (K6.far HB5.out (by decide) (by decide));have V6:=(V3.later hg5).step K6)))
  have hat:BlksAt w6 l1 bs:=by
   obtain ⟨b0,vs0,e0,o0,_⟩:=V6
   have q1:=heapV_blk (show heapV E (.slice l1 n1 c1) (fun c=>.slice (va c) (ln c) (vc c))=heapV E b0 vs0 from e0)
   rw [← q1] at o0
   exact own_at o0
  have hbk:=snd_bounds H3.snd
  have hn6:n1≤600:=by rw [← hn1.out];exact hw_few600 H3
  have HAT:=Lib.hid hat
  clear hat hft1 hfit1 hgr hgr1 h6 V6 V3
  go_loopw [14] (fun i wr=>∃ k:Nat,k≤n1∧i=.int .i64 k∧w6.grownBy wr none) (fun i _=>n1 - (intOf i).toNat)
  case atStart=>exact ⟨0,Nat.zero_le _,rfl,grown_refl _ _⟩
  case round =>
   obtain ⟨k,hk,rfl,hgk⟩:=hrel
   rename_i wr
   rcases Nat.lt_or_ge k n1 with h1|h1
   ·have hkb:k<bs.length:=by rw [hn1.out];exact h1
    obtain ⟨bb,off,rfl,hbb,hcs⟩:=(HAT.out.later hgk).cells (by omega)
    obtain ⟨hu1,hu0⟩:=hfg _ _ _ _ _ _ _ _ G k H3 hkb (F6.heap.later hgk)
    have hb3:=hbk k hkb
    have hB:=(hgk.block _ (lt_of_block HB6.out) (by simp)).trans HB6.out
    obtain ⟨x0,ex0⟩:∃ x,gO bs k=x:=⟨_,rfl⟩
    obtain ⟨x1,ex1⟩:∃ x,gS bs k=x:=⟨_,rfl⟩
    obtain ⟨x2,ex2⟩:∃ x,gU bs k=x:=⟨_,rfl⟩
    obtain ⟨x3,ex3⟩:∃ x,gW bs k=x:=⟨_,rfl⟩
    obtain ⟨x4,ex4⟩:∃ x,gN bs k=x:=⟨_,rfl⟩
    obtain ⟨c0,c1',c2',c3',c4'⟩:=hcs k hkb
    rw [ex0] at c0 hu1 hu0 hb3
    rw [ex1] at c1' hu1
    rw [ex2] at c2' hu1 hu0
    rw [ex3] at c3' hu1
    rw [ex4] at c4' hu1
    have w32:IntKind.u64.wrap ((x0:Int)+32)=((x0+32:Nat):Int):=by rw [IntKind.wrap_u64];omega
    obtain ⟨y0,ey0⟩:∃ y,x0+32=y:=⟨_,rfl⟩
    rw [ey0] at hu1 hu0 w32
    have h1':(k:Int)<(n1:Int):=by omega
    have hcell:∀ V:World,wr.grownBy V none→V.cell? ⟨w2.heap.size,1,none⟩=some (.slice (some ⟨bb,off,none⟩) n1 c1)∧V.cell? ⟨bb,off+k*5,none⟩=some (.int .u64 x0)∧V.cell? ⟨bb,off+k*5+1,none⟩=some (.int .u64 x1)∧V.cell? ⟨bb,off+k*5+2,none⟩=some (.bool x2)∧V.cell? ⟨bb,off+k*5+3,none⟩=some (.int .i64 x3)∧V.cell? ⟨bb,off+k*5+4,none⟩=some (.int .u64 x4):=fun V hg=>by
     have q2:=hg.block bb hbb (by simp)
     have K2:∀ {i v},wr.cell? ⟨bb,i,none⟩=some v→V.cell? ⟨bb,i,none⟩=some v:=fun {i v} hv=>(World.cell?_of_block (w:=wr) (a:=⟨bb,i,none⟩) q2).trans hv
     exact ⟨(ten_cells ((hg.block _ (lt_of_block hB) (by simp)).trans hB)).1.2.1,K2 c0,K2 c1',K2 c2',K2 c3',K2 c4'⟩
    have HCL:=Lib.hid hcell
    clear hcs ex0 ex1 ex2 ex3 ex4 ey0 hb3 hB c0 c1' c2' c3' c4' hkb hcell
    obtain ⟨z0,z1,z2,z3,z4,z5⟩:=HCL.out wr (grown_refl wr none)
    cases x2 with
    | true =>
     have hfd:=hu1 rfl
     clear hu1 hu0
     have hmd:=fun w=>made12_any ⟨x0,x1,true,x3,x4⟩ w
     simp only at hmd
     go_wp2_with (first
      | (go_at_call 14;((with_reducible refine hfd.mono ?_);rintro e7 w7 ⟨rfl,hg7'⟩;have hg7:=grown_trans hg7' (World.grownBy_alloc w7 (.cells #[.int .u64 x0,.int .u64 x1,.bool true,.int .i64 x3,.int .u64 x4] 45) none);obtain ⟨z0,z1,z2,z3,z4,z5⟩:=HCL.out _ hg7;have HB7:=Lib.hid (heap_alloc_new' w7 (.cells #[.int .u64 x0,.int .u64 x1,.bool true,.int .i64 x3,.int .u64 x4] 45));obtain ⟨d0,d1,d2,d3,d4⟩:=five_cells HB7.out)))
     have hall:∀ V:World,(w7.alloc (.cells #[.int .u64 x0,.int .u64 x1,.bool true,.int .i64 x3,.int .u64 x4] 45)).grownBy V none→V.cell? ⟨w2.heap.size,1,none⟩=some (.slice (some ⟨bb,off,none⟩) n1 c1)∧V.cell? ⟨bb,off+k*5,none⟩=some (.int .u64 x0)∧V.cell? ⟨bb,off+k*5+1,none⟩=some (.int .u64 x1)∧V.cell? ⟨bb,off+k*5+2,none⟩=some (.bool true)∧V.cell? ⟨bb,off+k*5+3,none⟩=some (.int .i64 x3)∧V.cell? ⟨bb,off+k*5+4,none⟩=some (.int .u64 x4)∧V.cell? ⟨w7.heap.size,0,none⟩=some (.int .u64 x0)∧V.cell? ⟨w7.heap.size,1,none⟩=some (.int .u64 x1)∧V.cell? ⟨w7.heap.size,2,none⟩=some (.bool true)∧V.cell? ⟨w7.heap.size,3,none⟩=some (.int .i64 x3)∧V.cell? ⟨w7.heap.size,4,none⟩=some (.int .u64 x4):=fun V hg=>by
      obtain ⟨z0,z1,z2,z3,z4,z5⟩:=HCL.out V (grown_trans hg7 hg)
      obtain ⟨d0,d1,d2,d3,d4⟩:=five_cells ((hg.block _ (lt_of_block HB7.out) (by simp)).trans HB7.out)
      exact ⟨z0,z1,z2,z3,z4,z5,d0,d1,d2,d3,d4⟩
     have HG:(w7.alloc (.cells #[.int .u64 x0,.int .u64 x1,.bool true,.int .i64 x3,.int .u64 x4] 45)).grownBy (w7.alloc (.cells #[.int .u64 x0,.int .u64 x1,.bool true,.int .i64 x3,.int .u64 x4] 45)).drew none:=grown_drew (grown_refl _ _)
     clear z0 z1 z2 z3 z4 z5 d0 d1 d2 d3 d4
     obtain ⟨z0,z1,z2,z3,z4,z5,d0,d1,d2,d3,d4⟩:=hall _ HG
     go_region_held3 (fun w'=>w'.cell? ⟨w2.heap.size,1,none⟩=some (.slice (some ⟨bb,off,none⟩) n1 c1)∧w'.cell? ⟨bb,off+k*5,none⟩=some (.int .u64 x0)∧w'.cell? ⟨bb,off+k*5+1,none⟩=some (.int .u64 x1)∧w'.cell? ⟨bb,off+k*5+2,none⟩=some (.bool true)∧w'.cell? ⟨bb,off+k*5+3,none⟩=some (.int .i64 x3)∧w'.cell? ⟨bb,off+k*5+4,none⟩=some (.int .u64 x4)∧w'.cell? ⟨w7.heap.size,0,none⟩=some (.int .u64 x0)∧w'.cell? ⟨w7.heap.size,1,none⟩=some (.int .u64 x1)∧w'.cell? ⟨w7.heap.size,2,none⟩=some (.bool true)∧w'.cell? ⟨w7.heap.size,3,none⟩=some (.int .i64 x3)∧w'.cell? ⟨w7.heap.size,4,none⟩=some (.int .u64 x4)) (first|(with_reducible exact hall _ HG)) (first
      | (go_at_call 21;((with_reducible refine (hmd _).mono ?_);rintro e8 w8 ⟨rfl,hg8⟩;replace HG:=grown_trans HG hg8;obtain ⟨z0,z1,z2,z3,z4,z5,d0,d1,d2,d3,d4⟩:=hall _ HG)))
     go_wp2
     go_roundw
     case rel=>exact ⟨k+1,by omega,by go_num,grown_trans hgk (grown_trans hg7 HG)⟩
     case measure=>simp [intOf];omega
    | false =>
     have hfd:=hu0 rfl
     clear hu1 hu0
     go_wp2_with (first
      | (go_at_call 14;((with_reducible refine hfd.mono ?_);rintro e7 w7 ⟨rfl,hg7'⟩;have hg7:=grown_trans hg7' (World.grownBy_alloc w7 (.cells #[.int .u64 0,.int .u64 0,.bool false,.int .i64 0,.int .u64 0] 45) none);obtain ⟨z0,z1,z2,z3,z4,z5⟩:=HCL.out _ hg7;have HB7:=Lib.hid (heap_alloc_new' w7 (.cells #[.int .u64 0,.int .u64 0,.bool false,.int .i64 0,.int .u64 0] 45));obtain ⟨d0,d1,d2,d3,d4⟩:=five_cells HB7.out)))
     have hall:∀ V:World,(w7.alloc (.cells #[.int .u64 0,.int .u64 0,.bool false,.int .i64 0,.int .u64 0] 45)).grownBy V none→V.cell? ⟨w2.heap.size,1,none⟩=some (.slice (some ⟨bb,off,none⟩) n1 c1)∧V.cell? ⟨bb,off+k*5,none⟩=some (.int .u64 x0)∧V.cell? ⟨bb,off+k*5+1,none⟩=some (.int .u64 x1)∧V.cell? ⟨bb,off+k*5+2,none⟩=some (.bool false)∧V.cell? ⟨bb,off+k*5+3,none⟩=some (.int .i64 x3)∧V.cell? ⟨bb,off+k*5+4,none⟩=some (.int .u64 x4)∧V.cell? ⟨w7.heap.size,0,none⟩=some (.int .u64 0)∧V.cell? ⟨w7.heap.size,1,none⟩=some (.int .u64 0)∧V.cell? ⟨w7.heap.size,2,none⟩=some (.bool false)∧V.cell? ⟨w7.heap.size,3,none⟩=some (.int .i64 0)∧V.cell? ⟨w7.heap.size,4,none⟩=some (.int .u64 0):=fun V hg=>by
      obtain ⟨z0,z1,z2,z3,z4,z5⟩:=HCL.out V (grown_trans hg7 hg)
      obtain ⟨d0,d1,d2,d3,d4⟩:=five_cells ((hg.block _ (lt_of_block HB7.out) (by simp)).trans HB7.out)
      exact ⟨z0,z1,z2,z3,z4,z5,d0,d1,d2,d3,d4⟩
     have HG:(w7.alloc (.cells #[.int .u64 0,.int .u64 0,.bool false,.int .i64 0,.int .u64 0] 45)).grownBy (w7.alloc (.cells #[.int .u64 0,.int .u64 0,.bool false,.int .i64 0,.int .u64 0] 45)).drew none:=grown_drew (grown_refl _ _)
     clear z0 z1 z2 z3 z4 z5 d0 d1 d2 d3 d4
     obtain ⟨z0,z1,z2,z3,z4,z5,d0,d1,d2,d3,d4⟩:=hall _ HG
     refine wp_region_held_drew (S:=fun w'=>w'.cell? ⟨w2.heap.size,1,none⟩=some (.slice (some ⟨bb,off,none⟩) n1 c1)∧w'.cell? ⟨bb,off+k*5,none⟩=some (.int .u64 x0)∧w'.cell? ⟨bb,off+k*5+1,none⟩=some (.int .u64 x1)∧w'.cell? ⟨bb,off+k*5+2,none⟩=some (.bool false)∧w'.cell? ⟨bb,off+k*5+3,none⟩=some (.int .i64 x3)∧w'.cell? ⟨bb,off+k*5+4,none⟩=some (.int .u64 x4)∧w'.cell? ⟨w7.heap.size,0,none⟩=some (.int .u64 0)∧w'.cell? ⟨w7.heap.size,1,none⟩=some (.int .u64 0)∧w'.cell? ⟨w7.heap.size,2,none⟩=some (.bool false)∧w'.cell? ⟨w7.heap.size,3,none⟩=some (.int .i64 0)∧w'.cell? ⟨w7.heap.size,4,none⟩=some (.int .u64 0)) (by kernel_rfl) (hall _ HG) (fun hHeld=>?_)
     refine held_yes 0 63 (v:=?_) rfl rfl (by kernel_rfl) (by kernel_rfl) (by kernel_rfl) (fun _ _ _ h=>h) (by kernel_rfl) ?hy0 hHeld ?hr0
     case hy0=>(intro w hSw;(try dsimp only at hSw);go_simp;try (with_reducible rfl))
     case hr0 =>
     simp only [Act.put,List.setIfInBounds_toArray,List.set_cons_zero,List.set_cons_succ]
     refine held_yes 1 64 (v:=?_) rfl rfl (by kernel_rfl) (by kernel_rfl) (by kernel_rfl) (fun _ _ _ h=>h) (by kernel_rfl) ?hy1 hHeld ?hr1
     case hy1=>(intro w hSw;(try dsimp only at hSw);go_simp;try (with_reducible rfl))
     case hr1 =>
     simp only [Act.put,List.setIfInBounds_toArray,List.set_cons_zero,List.set_cons_succ]
     refine held_yes 2 65 (v:=?_) rfl rfl (by kernel_rfl) (by kernel_rfl) (by kernel_rfl) (fun _ _ _ h=>h) (by kernel_rfl) ?hy2 hHeld ?hr2
     case hy2=>(intro w hSw;(try dsimp only at hSw);go_simp;try (with_reducible rfl))
     case hr2 =>
     simp only [Act.put,List.setIfInBounds_toArray,List.set_cons_zero,List.set_cons_succ]
     refine held_yes 3 66 (v:=?_) rfl rfl (by kernel_rfl) (by kernel_rfl) (by kernel_rfl) (fun _ _ _ h=>h) (by kernel_rfl) ?hy3 hHeld ?hr3
     case hy3=>(intro w hSw;(try dsimp only at hSw);go_simp;try (with_reducible rfl))
     case hr3 =>
     simp only [Act.put,List.setIfInBounds_toArray,List.set_cons_zero,List.set_cons_succ]
     refine held_yes 4 67 (v:=?_) rfl rfl (by kernel_rfl) (by kernel_rfl) (by kernel_rfl) (fun _ _ _ h=>h) (by kernel_rfl) ?hy4 hHeld ?hr4
     case hy4=>(intro w hSw;(try dsimp only at hSw);go_simp;try (with_reducible rfl))
     case hr4 =>
     simp only [Act.put,List.setIfInBounds_toArray,List.set_cons_zero,List.set_cons_succ]
     refine held_yes 5 68 (v:=?_) rfl rfl (by kernel_rfl) (by kernel_rfl) (by kernel_rfl) (fun _ _ _ h=>h) (by kernel_rfl) ?hy5 hHeld ?hr5
     case hy5=>(intro w hSw;(try dsimp only at hSw);go_simp;try (with_reducible rfl))
     case hr5 =>
     simp only [Act.put,List.setIfInBounds_toArray,List.set_cons_zero,List.set_cons_succ]
     refine held_yes 6 69 (v:=?_) rfl rfl (by kernel_rfl) (by kernel_rfl) (by kernel_rfl) (fun _ _ _ h=>h) (by kernel_rfl) ?hy6 hHeld ?hr6
     case hy6=>(intro w hSw;(try dsimp only at hSw);go_simp;try (with_reducible rfl))
     case hr6 =>
     simp only [Act.put,List.setIfInBounds_toArray,List.set_cons_zero,List.set_cons_succ]
     refine held_yes 7 70 (v:=?_) rfl rfl (by kernel_rfl) (by kernel_rfl) (by kernel_rfl) (fun _ _ _ h=>h) (by kernel_rfl) ?hy7 hHeld ?hr7
     case hy7=>(intro w hSw;(try dsimp only at hSw);go_simp;try (with_reducible rfl))
     case hr7 =>
     simp only [Act.put,List.setIfInBounds_toArray,List.set_cons_zero,List.set_cons_succ]
     refine held_skip 8 71 rfl rfl (by kernel_rfl) (by kernel_rfl) (by kernel_rfl) (fun _ _ _ h=>h) (by kernel_rfl) hHeld ?_
     simp only [Act.put,List.setIfInBounds_toArray,List.set_cons_zero,List.set_cons_succ]
     refine held_skip 9 72 rfl rfl (by kernel_rfl) (by kernel_rfl) (by kernel_rfl) (fun _ _ _ h=>h) (by kernel_rfl) hHeld ?_
     simp only [Act.put,List.setIfInBounds_toArray,List.set_cons_zero,List.set_cons_succ]
     refine held_skip 10 73 rfl rfl (by kernel_rfl) (by kernel_rfl) (by kernel_rfl) (fun _ _ _ h=>h) (by kernel_rfl) hHeld ?_
     simp only [Act.put,List.setIfInBounds_toArray,List.set_cons_zero,List.set_cons_succ]
     refine held_skip 11 74 rfl rfl (by kernel_rfl) (by kernel_rfl) (by kernel_rfl) (fun _ _ _ h=>h) (by kernel_rfl) hHeld ?_
     simp only [Act.put,List.setIfInBounds_toArray,List.set_cons_zero,List.set_cons_succ]
     refine held_skip 12 75 rfl rfl (by kernel_rfl) (by kernel_rfl) (by kernel_rfl) (fun _ _ _ h=>h) (by kernel_rfl) hHeld ?_
     simp only [Act.put,List.setIfInBounds_toArray,List.set_cons_zero,List.set_cons_succ]
     refine held_skip 13 76 rfl rfl (by kernel_rfl) (by kernel_rfl) (by kernel_rfl) (fun _ _ _ h=>h) (by kernel_rfl) hHeld ?_
     simp only [Act.put,List.setIfInBounds_toArray,List.set_cons_zero,List.set_cons_succ]
     refine held_skip 14 77 rfl rfl (by kernel_rfl) (by kernel_rfl) (by kernel_rfl) (fun _ _ _ h=>h) (by kernel_rfl) hHeld ?_
     simp only [Act.put,List.setIfInBounds_toArray,List.set_cons_zero,List.set_cons_succ]
     refine held_skip 15 78 rfl rfl (by kernel_rfl) (by kernel_rfl) (by kernel_rfl) (fun _ _ _ h=>h) (by kernel_rfl) hHeld ?_
     simp only [Act.put,List.setIfInBounds_toArray,List.set_cons_zero,List.set_cons_succ]
     refine held_skip 16 79 rfl rfl (by kernel_rfl) (by kernel_rfl) (by kernel_rfl) (fun _ _ _ h=>h) (by kernel_rfl) hHeld ?_
     simp only [Act.put,List.setIfInBounds_toArray,List.set_cons_zero,List.set_cons_succ]
     refine held_skip 17 80 rfl rfl (by kernel_rfl) (by kernel_rfl) (by kernel_rfl) (fun _ _ _ h=>h) (by kernel_rfl) hHeld ?_
     simp only [Act.put,List.setIfInBounds_toArray,List.set_cons_zero,List.set_cons_succ]
     refine held_skip 18 81 rfl rfl (by kernel_rfl) (by kernel_rfl) (by kernel_rfl) (fun _ _ _ h=>h) (by kernel_rfl) hHeld ?_
     simp only [Act.put,List.setIfInBounds_toArray,List.set_cons_zero,List.set_cons_succ]
     refine held_skip 19 82 rfl rfl (by kernel_rfl) (by kernel_rfl) (by kernel_rfl) (fun _ _ _ h=>h) (by kernel_rfl) hHeld ?_
     simp only [Act.put,List.setIfInBounds_toArray,List.set_cons_zero,List.set_cons_succ]
     refine held_yes 20 83 (v:=?_) rfl rfl (by kernel_rfl) (by kernel_rfl) (by kernel_rfl) (fun _ _ _ h=>h) (by kernel_rfl) ?hy20 hHeld ?hr20
     case hy20=>(intro w hSw;(try dsimp only at hSw);go_simp;try (with_reducible rfl))
     case hr20 =>
     simp only [Act.put,List.setIfInBounds_toArray,List.set_cons_zero,List.set_cons_succ]
     refine wpAnyH_done (by kernel_rfl) ?_ _
     go_wp2
     go_roundw
     case rel=>exact ⟨k+1,by omega,by go_num,grown_trans hgk (grown_trans hg7 HG)⟩
     case measure=>simp [intOf];omega
   ·obtain rfl:k=n1:=by omega
    have H7:=F6.heap.later hgk
    obtain ⟨j1,j2,j3,hfit2⟩:=hft2 _ _ _ _ _ _ _ _ G H3 H7
    have hsz:=fun (V:World) (hg:wr.grownBy V none)=>hw_size (H7.later hg)
    have B9:=(hgk.block _ (lt_of_block HB6.out) (by simp)).trans HB6.out
    obtain ⟨⟨d0,d1,d2,d3,d4,d5,d6,d7,d8,d9⟩,_⟩:=ten_cells B9
    clear B9 hfg hft2
    go_wp2_with (first
     | (go_at_call 19;((with_reducible refine hfit2.mono ?_);rintro e9 w9 ⟨rfl,hg9'⟩;have hg9:=grown_trans hg9' (World.grownBy_alloc w9 (.cells #[.int .u64 j1,.int .u64 j2,.int .u64 j3] 55) none);have hsz9:=hsz _ hg9))
     | (go_at_call 22;((with_reducible refine hsz9.mono ?_);rintro e10 w10 ⟨rfl,hg10⟩)))
    go_ret
    exact ⟨rfl,grown_trans hg1 (grown_trans H7.since (grown_trans hg9 hg10))⟩
theorem walk {w:World} {la:Option Addr} {n c:Nat} {X O A N:Nat→Nat} (hc:n≤c) (hn:n≤maxLen) (hp:DoneAt w la n X O A N) (m:Int) (wm:(Lit.int .u16 m).wf=true) :
  Calls Tryz.prog 6 #[.slice la n c,.int .u16 m] w fun e w'=>e=.returned (.bool true)∧Below w.heap.size w w':=by
 have bm:=bounds_u16 wm
 obtain ⟨m,rfl⟩:=Int.eq_ofNat_of_zero_le bm.1
 exact (core hp hn (by omega)).mono fun e w' ⟨h1,h2⟩=>⟨h1,grown_below h2⟩
theorem laidOut:laidOutB Tryz.prog=true:=by kernel_rfl
/-! ### The row's step: the guide's frame -/
theorem own:ownKnob Tryz.prog.godebug=none:=by kernel_rfl
set_option maxRecDepth 100000 in
theorem lifted (os:Os) (started:os.Started) (H:Type) (enc:TypeId × Value→H) :
  ReturnsInHanded {} Tryz.checked os 6 .any (Rows.resizeRoomSpec.pre6 enc Tryz.prog Tryz.f6 Rows.resizeRoomRow.domain false) (Rows.resizeRoomSpec.post enc Tryz.prog Tryz.f6 false true false false):=by
 refine returnsInHanded_of_change (C:=Tryz.checked) own started (by kernel_rfl) Tryz.func6
  (ChangeSpec.witness6 (enc:=enc) (C:=Tryz.checked) false ⟨#[],#[.slice none 0 0,.int .u16 0],[]⟩ 8 (by kernel_rfl) (by kernel_rfl) (by kernel_rfl) (by kernel_rfl)) ?_
 intro W base args ds gs before hval0 hW hcnd _
 have hval:∀ (j:Nat) t v,Tryz.f6.params[j]?=some t→args[j]?=some v→Value.okWide Tryz.prog W .any base t v:=hval0
 have hW':=hW
 obtain ⟨p,q,hA0,hV,rfl,hfz,hnd⟩:=hW
 have hA:DataW.TrodAll enc Tryz.prog W 0 (fun _=>true) true Tryz.f6.params.toList args.toList ds p:=hA0
 rw [Tryz.params6] at hA hval
 obtain ⟨v0,vs0,d0,ds0,p0,q0,hargs,rfl,rfl,h0,r0⟩:=trodAll_cons hA
 obtain ⟨v1,vs1,d1,ds1,p1,q1,rfl,rfl,rfl,h1,r1⟩:=trodAll_cons r0
 obtain ⟨rfl,rfl,rfl⟩:=trodAll_nil r1
 obtain rfl:args=#[v0,v1]:=by cases args;simp_all
 obtain ⟨rfl,rfl⟩:=trodVars_none hV
 have lt0:∀ x∈p0,x.block<W.heap.size:=by obtain ⟨m,hm⟩:=h0;exact DataW.trod_lt m _ _ _ hm
 obtain ⟨la0,n0,c0,X0,O0,A0,N0,rfl,hc0,hn0,hp0⟩:=open_done (hval 0 22 v0 rfl rfl) h0
 obtain ⟨a1,rfl,rfl,rfl,w1⟩:=open_int Tryz.underlying40 (hval 1 40 v1 rfl rfl) h1
 clear hA0 hval0
 refine (walk hc0 hn0 hp0 a1 w1).mono fun e W' ⟨he,bel⟩=>?_
 subst he
 exact ⟨_,rfl,_,_,_,[],_,[],hW',trodAll_mk1 (shut_bool Tryz.underlying4 _),(trodAll_cons_mk (Below.trod laidOut (by kernel_rfl) (of_decide_eq_true (by kernel_rfl)) h0 bel lt0) (trodAll_cons_mk (shut_int Tryz.underlying40 w1) trodAll_mk0)),rfl,bel.frame _,fun h=>by cases h⟩

theorem over:Rows.resizeRoomRow.holds Tryz.pinned (OpenSpec.ofChange Rows.resizeRoomSpec) :=
 OpenClaim.holds_of_wide 6 Tryz.f6 rfl rfl rfl rfl rfl rfl rfl ⟨rfl,rfl,rfl,rfl,rfl⟩ rfl rfl rfl rfl rfl (by kernel_rfl) Tryz.func6 (by kernel_rfl)
  (of_decide_eq_true (by kernel_rfl)) (by unfold Func.isWrapper;first|(rw [if_pos (by decide +kernel)];kernel_rfl)|(rw [if_neg (by decide +kernel)];exact ⟨rfl,rfl⟩))
  (fun os started H enc _=>lifted os started H enc)

theorem proved:Rows.ResizeRoomSaid :=
 over
#print axioms proved


end Go.Proofs.YtcbdbflgfhbikaaGreat.resizeRoom
