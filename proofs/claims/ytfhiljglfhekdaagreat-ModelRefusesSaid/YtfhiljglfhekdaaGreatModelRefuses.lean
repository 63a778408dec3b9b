/-
  A call that tells an error changes nothing, and tells nothing else. The statement ModelRefuses; no condition.
-/
import Derived.Test.YtfhiljglfhekdaaGreatLEnb
import Derived.Test.YtfhiljglfhekdaaGreatKogH
import Derived.Test.YtfhiljglfhekdaaGreatLZza
import Derived.Test.YtfhiljglfhekdaaGreatRows
import Derived.Lib.SmallJoins
import Derived.ProofKit
import Derived.OpenShut
import Derived.Carry
import Derived.Deep.RegionHeld3
import Derived.ChangeOld
namespace Go.Proofs.YtfhiljglfhekdaaGreat.modelRefuses
open Go.ChangeShapes Go.WideShapes Go.ChangeAt Go.RowKit
open Go.ChangeMaps (open_string shut_string)
set_option linter.unusedVariables false
set_option linter.unusedSimpArgs false
set_option maxRecDepth 100000

set_option maxHeartbeats 16000000 in
theorem core {w:World} {la:Option Addr} {c:Nat} {l:List Yc4} (hn:l.length≤maxLen) (ho:∀ q∈l,Yda q) (hp:Yco w la l) {q:Yc4} (hq:Yda q):Calls Tryz.prog 4 #[.slice la l.length c,.agg q.C] w fun e w'=>e=.returned (.bool true)∧w.grownBy w' none:=by
 have hb3:=Yab w (.cells q.C 43)
 have hg0:=World.grownBy_alloc w (.cells q.C 43) none
 obtain ⟨W0,hW0⟩:∃ W,w.alloc (.cells q.C 43)=W:=⟨_,rfl⟩
 rw [hW0] at hb3 hg0
 have HG0:=Lib.hid hg0
 clear hg0
 rcases Bool.eq_false_or_eq_true (fewL l) with hf|hf
 ·have h25:=(fewL_is hf).1
  by_cases h60:60<q.x.name.size
  ·have h60':(60:Int)<(q.x.name.size:Int):=by omega
   go_enter Tryz.func4,Tryz.ntmps4
   go_wp2_with (first
    | (go_at_call 9;go_must ((with_reducible refine (Yc3 _).mono ?_);rintro en w1 ⟨rfl,hg1'⟩;have hg1:=Yaa HG0.out hg1';have hc1:=few14 (c:=c) (hp.later hg1) rfl hn;rw [hf] at hc1;have b1:=Yan hb3 hg1';have r8:w1.cell? ⟨w.heap.size,8,none⟩=some (.string q.x.name):=Yas b1 rfl))
    | (go_at_call 10;go_must ((with_reducible refine hc1.mono ?_);rintro en w2 ⟨rfl,hw2⟩;subst w2)))
   go_ret
   exact ⟨rfl,hg1⟩
  ·have h60':¬ (60:Int)<(q.x.name.size:Int):=by omega
   go_enter Tryz.func4,Tryz.ntmps4
   go_wp2_with (first
    | (go_at_call 9;go_must ((with_reducible refine (Yc3 _).mono ?_);rintro en w1 ⟨rfl,hg1'⟩;have hg1:=Yaa HG0.out hg1';have hc1:=few14 (c:=c) (hp.later hg1) rfl hn;rw [hf] at hc1;have b1:=Yan hb3 hg1';have r8:w1.cell? ⟨w.heap.size,8,none⟩=some (.string q.x.name):=Yas b1 rfl))
    | (go_at_call 10;go_must ((with_reducible refine hc1.mono ?_);rintro en w2 ⟨rfl,hw2⟩;subst w2;have hc2:=played14 (c:=c) (hp.later hg1) ho rfl h25))
    | (go_at_call 11;go_must ((with_reducible refine hc2.mono ?_);rintro en w3 ⟨P,base,K,S,cs,rfl,s0,s1,hK,hPl⟩;have z7:=Yab w3 (.cells sZ 36);have g7:=World.grownBy_alloc w3 (.cells sZ 36) none;obtain ⟨Z7,hZ7⟩:∃ Z,w3.alloc (.cells sZ 36)=Z:=⟨_,rfl⟩;rw [hZ7] at z7 g7;unfold sZ at hZ7;have hPz:=hPl.later g7;have l7:=hPl.gr.size))
    | (refine Yae rfl 36 _ _ rfl _ 0 rfl rfl z7 (by rw [s0];exact Nat.le_refl _) (by rw [Yai,s0]) s1 ?_;intro W4 p4 g4;rw [Yau _ _ s0] at p4;have hP4:=hPz.past g4 z7 l7 Ybt (by decide) (by decide);have G4:=Yaa hg1 hP4.gr;have b4:=Yan b1 hP4.gr))
   have HY:Hid (OpOk (resM S.bs q.x q.at_)):=Lib.hid (resM_ok hP4.hm hq.x q.at_)
   obtain ⟨y,ey⟩:∃ y,resM S.bs q.x q.at_=y:=⟨_,rfl⟩
   have hres:∀ V,W4.grownBy V none→Calls Tryz.prog 14 #[.agg cs,.agg q.C] V fun en W1=>en=.returned (.agg (opC y))∧V.grownBy W1 none:=fun V hV=>by
    rw [← ey]
    exact (hP4.later hV).resolve q.c hq.at_ q.kill
   rw [ey] at HY
   obtain ⟨S',e,p,v,ha⟩:=step_total 4800 S q.c y
   have hdo:∀ V,W4.grownBy V none→Calls Tryz.prog 13 #[.pointer (some ⟨P,0,none⟩),.int .i64 q.c,.agg (opC y)] V fun en W1=>en=.returned (.agg #[.int .i64 (e:Nat),.int .u64 (p:Nat),.int .u64 (v:Nat)])∧PlH w1 P base (.agg cs) K S S' W1∧Ybw w1 V W1:=fun V hV=>(hP4.later hV).code HY.out ha
   have hS:∀ V,W4.grownBy V none→V.cell? ⟨w.heap.size,0,none⟩=some (.int .i64 q.c)∧V.heap[w3.heap.size]?=some (.cells cs 36 (0,0))∧V.heap[w.heap.size]?=some (.cells q.C 43 (0,0)):=fun V hV=>⟨Yas (Yan b4 hV) rfl,Yan p4 hV,Yan b4 hV⟩
   have hSt:∀ V W,W4.grownBy V none→Ybw w1 V W→W.cell? ⟨w.heap.size,0,none⟩=some (.int .i64 q.c)∧W.heap[w3.heap.size]?=some (.cells cs 36 (0,0))∧W.heap[w.heap.size]?=some (.cells q.C 43 (0,0)):=fun V W hV hs=>⟨Yas (hs.box (Yan b4 hV) (by decide) (by decide) (by decide)) rfl,hs.box (Yan p4 hV) (by decide) (by decide) (by decide),hs.box (Yan b4 hV) (by decide) (by decide) (by decide)⟩
   have HS:=Lib.hid hS
   have HST:=Lib.hid hSt
   have HRES:=Lib.hid hres
   have HDO:=Lib.hid hdo
   have HA:=Lib.hid ha
   have l4:=hP4.gr.size
   have l13:=lt_of_block p4
   have hlw:w.heap.size<W4.heap.size:=lt_of_block b4
   have hw1:=hg1.size
   clear hS hSt hres hdo ha ey hP4 hPz hPl p4 b4 hb3 b1 z7 g7 g4 hc1 hc2 r8
   have HG:W4.grownBy W4.drew none:=Yah (Yag _ _)
   apply split_rest (α:=Nat) (R:=fun b9 V=>PlH w1 P base (.agg cs) K S S' V∧V.heap[w3.heap.size]?=some (.cells cs 36 (0,0))∧V.heap[b9]?=some (.cells #[.int .i64 (e:Nat),.int .u64 (p:Nat),.int .u64 (v:Nat)] 46 (0,0)))
   ·intro hG
    refine wp_region_held_drew (S:=fun V=>V.cell? ⟨w.heap.size,0,none⟩=some (.int .i64 q.c)∧V.heap[w3.heap.size]?=some (.cells cs 36 (0,0))∧V.heap[w.heap.size]?=some (.cells q.C 43 (0,0))) (by kernel_rfl) (HS.out _ HG) (fun hHeld=>?_)
    refine hY 0 28 (v:=?_) rfl rfl hHeld ?y0 ?r0
    case y0=>(intro w hSw;(try dsimp only at hSw);go_simp;try (with_reducible rfl))
    case r0 =>
    simp only [Act.put,List.setIfInBounds_toArray,List.set_cons_zero,List.set_cons_succ]
    refine hY 1 29 (v:=?_) rfl rfl hHeld ?y1 ?r1
    case y1=>(intro w hSw;(try dsimp only at hSw);go_simp;try (with_reducible rfl))
    case r1 =>
    simp only [Act.put,List.setIfInBounds_toArray,List.set_cons_zero,List.set_cons_succ]
    refine hY 2 30 (v:=?_) rfl rfl hHeld ?y2 ?r2
    case y2=>(intro w hSw;(try dsimp only at hSw);go_simp;try (with_reducible rfl))
    case r2 =>
    simp only [Act.put,List.setIfInBounds_toArray,List.set_cons_zero,List.set_cons_succ]
    refine hY 3 31 (v:=.agg cs) rfl rfl hHeld ?y3 ?r3
    case y3=>exact Ycz 36 _ rfl _ 0 rfl (fun W hW=>hW.2.1) cs (fun j v hj=>by simpa using hj) _ Tryz.underlying36 rfl (by rw [Yai,s0])
    case r3 =>
    simp only [Act.put,List.setIfInBounds_toArray,List.set_cons_zero,List.set_cons_succ]
    refine hY 4 32 (v:=.agg q.C) rfl rfl hHeld ?y4 ?r4
    case y4=>exact Ycz 43 _ rfl _ 0 rfl (fun W hW=>hW.2.2) q.C (fun j v hj=>by simpa using hj) _ Tryz.underlying43 rfl (by exact info_call)
    case r4 =>
    simp only [Act.put,List.setIfInBounds_toArray,List.set_cons_zero,List.set_cons_succ]
    refine wpAnyH_ready (rs:=[5,7]) (by kernel_rfl) (by simp) (AllReadyH.cons rfl (fun K hK=>?_) (AllReadyH.cons rfl (fun K hK=>?_) AllReadyH.nil))
    ·clear hHeld
     go_simp
     (go_at_call 14;go_must ((with_reducible refine (HRES.out _ HG).mono ?_);rintro en w5 ⟨rfl,hg5⟩))
     have HG5:=Yaa HG hg5
     refine hK.out _ _ (HS.out _ HG5) (fun hHeld=>?_)
     clear hK K
     try simp only [Act.put,List.setIfInBounds_toArray,List.set_cons_zero,List.set_cons_succ]
     refine wpAnyH_ready (rs:=[6,7]) (by kernel_rfl) (by simp) (AllReadyH.cons rfl (fun K hK=>?_) (AllReadyH.cons rfl (fun K hK=>?_) AllReadyH.nil))
     ·clear hHeld
      go_simp
      (go_at_call 13;go_must ((with_reducible refine (HDO.out _ HG5).mono ?_);rintro en w6 ⟨rfl,hH6,hs6⟩))
      have hS6:=HST.out _ _ HG5 hs6
      have m6:=hs6.size
      have m5:=HG5.size
      refine hK.out _ _ hS6 (fun hHeld=>?_)
      clear hK K
      try simp only [Act.put,List.setIfInBounds_toArray,List.set_cons_zero,List.set_cons_succ]
      refine wpAnyH_ready (rs:=[7]) (by kernel_rfl) (by simp) (AllReadyH.cons rfl (fun K hK=>?_) AllReadyH.nil)
      clear hHeld
      have z9:=Yab w6 (.cells #[.int .i64 0,.int .u64 0,.int .u64 0] 46)
      have g6:=World.grownBy_alloc w6 (.cells #[.int .i64 0,.int .u64 0,.int .u64 0] 46) none
      have hH7:=hH6.later g6
      have hS7:(w6.alloc (.cells #[.int .i64 0,.int .u64 0,.int .u64 0] 46)).cell? ⟨w.heap.size,0,none⟩=some (.int .i64 q.c)∧(w6.alloc (.cells #[.int .i64 0,.int .u64 0,.int .u64 0] 46)).heap[w3.heap.size]?=some (.cells cs 36 (0,0))∧(w6.alloc (.cells #[.int .i64 0,.int .u64 0,.int .u64 0] 46)).heap[w.heap.size]?=some (.cells q.C 43 (0,0)):=⟨Yas (Yan hS6.2.2 g6) rfl,Yan hS6.2.1 g6,Yan hS6.2.2 g6⟩
      go_simp
      refine hK.out _ _ hS7 (fun hHeld=>?_)
      clear hK K
      try simp only [Act.put,List.setIfInBounds_toArray,List.set_cons_zero,List.set_cons_succ]
      refine wpAnyH_ready (rs:=[8]) (by kernel_rfl) (by simp) (AllReadyH.cons rfl (fun K hK=>?_) AllReadyH.nil)
      refine Ybe rfl 46 _ _ rfl _ 0 rfl rfl z9 (by exact Nat.le_refl _) (by exact Ya0) (by simp [Value.oneCell']) ?_
      intro W9 p9 g9
      rw [Yau _ _ (by rfl)] at p9
      have n1:w3.heap.size≠w6.heap.size:=by omega
      have n2:w.heap.size≠w6.heap.size:=by omega
      have hH9:=hH7.past g9 z9 (by omega) boxRs (by decide) (by decide)
      have px:=Ya3 hS7.2.1 g9 n1
      have pb:=Ya3 hS7.2.2 g9 n2
      refine hK.out _ _ ⟨Yas pb rfl,px,pb⟩ (fun hHeld=>?_)
      clear hK K
      try simp only [Act.put,List.setIfInBounds_toArray,List.set_cons_zero,List.set_cons_succ]
      refine wpAnyH_done (by kernel_rfl) ?_ _
      clear hHeld
      obtain ⟨bb,hbb⟩:∃ bb,w6.heap.size=bb:=⟨_,rfl⟩
      rw [hbb] at p9
      rw [hbb]
      exact hG bb W9 ⟨hH9,px,p9⟩
     ·clear hHeld
      have z9w:=Yab w5 (.cells #[.int .i64 0,.int .u64 0,.int .u64 0] 46)
      have HG6:=Yaa HG5 (World.grownBy_alloc w5 (.cells #[.int .i64 0,.int .u64 0,.int .u64 0] 46) none)
      have m5:=HG5.size
      go_simp
      refine hK.out _ _ (HS.out _ HG6) (fun hHeld=>?_)
      clear hK K
      try simp only [Act.put,List.setIfInBounds_toArray,List.set_cons_zero,List.set_cons_succ]
      refine wpAnyH_ready (rs:=[6]) (by kernel_rfl) (by simp) (AllReadyH.cons rfl (fun K hK=>?_) AllReadyH.nil)
      clear hHeld
      go_simp
      (go_at_call 13;go_must ((with_reducible refine (HDO.out _ HG6).mono ?_);rintro en w6 ⟨rfl,hH6,hs6⟩))
      have hS6:=HST.out _ _ HG6 hs6
      have z9:=hs6.box z9w (by decide) (by decide) (by decide)
      refine hK.out _ _ hS6 (fun hHeld=>?_)
      clear hK K
      try simp only [Act.put,List.setIfInBounds_toArray,List.set_cons_zero,List.set_cons_succ]
      refine wpAnyH_ready (rs:=[8]) (by kernel_rfl) (by simp) (AllReadyH.cons rfl (fun K hK=>?_) AllReadyH.nil)
      refine Ybe rfl 46 _ _ rfl _ 0 rfl rfl z9 (by exact Nat.le_refl _) (by exact Ya0) (by simp [Value.oneCell']) ?_
      intro W9 p9 g9
      rw [Yau _ _ (by rfl)] at p9
      have n1:w3.heap.size≠w5.heap.size:=by omega
      have n2:w.heap.size≠w5.heap.size:=by omega
      have hH9:=hH6.past g9 z9 (by omega) boxRs (by decide) (by decide)
      have px:=Ya3 hS6.2.1 g9 n1
      have pb:=Ya3 hS6.2.2 g9 n2
      refine hK.out _ _ ⟨Yas pb rfl,px,pb⟩ (fun hHeld=>?_)
      clear hK K
      try simp only [Act.put,List.setIfInBounds_toArray,List.set_cons_zero,List.set_cons_succ]
      refine wpAnyH_done (by kernel_rfl) ?_ _
      clear hHeld
      obtain ⟨bb,hbb⟩:∃ bb,w5.heap.size=bb:=⟨_,rfl⟩
      rw [hbb] at p9
      rw [hbb]
      exact hG bb W9 ⟨hH9,px,p9⟩
    ·clear hHeld
     have z9w:(W4.alloc (.cells #[.int .i64 0,.int .u64 0,.int .u64 0] 46)).drew.heap[W4.heap.size]?=some (Obj.cells #[.int .i64 0,.int .u64 0,.int .u64 0] 46 (0,0)):=Yab W4 (.cells #[.int .i64 0,.int .u64 0,.int .u64 0] 46)
     have HG6:W4.grownBy (W4.alloc (.cells #[.int .i64 0,.int .u64 0,.int .u64 0] 46)).drew none:=Yah (World.grownBy_alloc W4 (.cells #[.int .i64 0,.int .u64 0,.int .u64 0] 46) none)
     go_simp
     refine hK.out _ _ (HS.out _ HG6) (fun hHeld=>?_)
     clear hK K
     try simp only [Act.put,List.setIfInBounds_toArray,List.set_cons_zero,List.set_cons_succ]
     refine wpAnyH_ready (rs:=[5]) (by kernel_rfl) (by simp) (AllReadyH.cons rfl (fun K hK=>?_) AllReadyH.nil)
     clear hHeld
     go_simp
     (go_at_call 14;go_must ((with_reducible refine (HRES.out _ HG6).mono ?_);rintro en w5 ⟨rfl,hg5⟩))
     have HG7:=Yaa HG6 hg5
     refine hK.out _ _ (HS.out _ HG7) (fun hHeld=>?_)
     clear hK K
     try simp only [Act.put,List.setIfInBounds_toArray,List.set_cons_zero,List.set_cons_succ]
     refine wpAnyH_ready (rs:=[6]) (by kernel_rfl) (by simp) (AllReadyH.cons rfl (fun K hK=>?_) AllReadyH.nil)
     clear hHeld
     go_simp
     (go_at_call 13;go_must ((with_reducible refine (HDO.out _ HG7).mono ?_);rintro en w6 ⟨rfl,hH6,hs6⟩))
     have hS6:=HST.out _ _ HG7 hs6
     have z9:=hs6.box (Yan z9w hg5) (by decide) (by decide) (by decide)
     refine hK.out _ _ hS6 (fun hHeld=>?_)
     clear hK K
     try simp only [Act.put,List.setIfInBounds_toArray,List.set_cons_zero,List.set_cons_succ]
     refine wpAnyH_ready (rs:=[8]) (by kernel_rfl) (by simp) (AllReadyH.cons rfl (fun K hK=>?_) AllReadyH.nil)
     refine Ybe rfl 46 _ _ rfl _ 0 rfl rfl z9 (by exact Nat.le_refl _) (by exact Ya0) (by simp [Value.oneCell']) ?_
     intro W9 p9 g9
     rw [Yau _ _ (by rfl)] at p9
     have n1:w3.heap.size≠W4.heap.size:=by omega
     have n2:w.heap.size≠W4.heap.size:=by omega
     have hH9:=hH6.past g9 z9 (by omega) boxRs (by decide) (by decide)
     have px:=Ya3 hS6.2.1 g9 n1
     have pb:=Ya3 hS6.2.2 g9 n2
     refine hK.out _ _ ⟨Yas pb rfl,px,pb⟩ (fun hHeld=>?_)
     clear hK K
     try simp only [Act.put,List.setIfInBounds_toArray,List.set_cons_zero,List.set_cons_succ]
     refine wpAnyH_done (by kernel_rfl) ?_ _
     clear hHeld
     obtain ⟨bb,hbb⟩:∃ bb,W4.heap.size=bb:=⟨_,rfl⟩
     rw [hbb] at p9
     rw [hbb]
     exact hG bb W9 ⟨hH9,px,p9⟩
   ·intro b9 V5 ⟨hH,px,p9⟩
    obtain ⟨m0,m1,m2⟩:=Yaf p9
    have G5:=Yaa hg1 hH.gr
    clear HS HST HRES HDO HG
    by_cases he:e=0
    ·have m0':V5.cell? ⟨b9,0,none⟩=some (.int .i64 0):=by rw [m0,he];rfl
     clear m0 he
     go_wp2
     go_ret
     exact ⟨rfl,G5⟩
    ·obtain ⟨eS,ep,ev⟩:=HA.out.no he
     have h11:=HA.out.err
     subst ep ev
     have hsm:=same14 (hH.same eS) (by omega)
     have hne:¬ (e:Int)=0:=by omega
     have hne2:((e:Int) == 0)=false:=by simp;omega
     have h0:(0:Int)≤(e:Int):=by omega
     have h11':(e:Int)≤11:=by omega
     have hee:((e:Int) == (e:Int))=true:=by simp
     have m1':V5.cell? ⟨b9,1,none⟩=some (.int .u64 0):=m1
     have m2':V5.cell? ⟨b9,2,none⟩=some (.int .u64 0):=m2
     have HP9:=Lib.hid p9
     clear m1 m2 he h11 eS hH p9
     go_wp2_with (first
      | (refine Ycd (by kernel_rfl) 36 _ rfl _ 0 rfl px cs (fun j v hj=>by simpa using hj) _ Tryz.underlying36 rfl (by rw [Yai,s0]) ?_)
      | (go_at_call 12;go_must ((with_reducible refine hsm.mono ?_);rintro en w7 ⟨rfl,hg7⟩;obtain ⟨n0,n1,n2⟩:=Yaf (Yan HP9.out hg7))))
     go_ret
     exact ⟨rfl,Yaa G5 hg7⟩
 ·by_cases h60:60<q.x.name.size
  ·have h60':(60:Int)<(q.x.name.size:Int):=by omega
   go_enter Tryz.func4,Tryz.ntmps4
   go_wp2_with (first
    | (go_at_call 9;go_must ((with_reducible refine (Yc3 _).mono ?_);rintro en w1 ⟨rfl,hg1'⟩;have hg1:=Yaa HG0.out hg1';have hc1:=few14 (c:=c) (hp.later hg1) rfl hn;rw [hf] at hc1;have b1:=Yan hb3 hg1';have r8:w1.cell? ⟨w.heap.size,8,none⟩=some (.string q.x.name):=Yas b1 rfl))
    | (go_at_call 10;go_must ((with_reducible refine hc1.mono ?_);rintro en w2 ⟨rfl,hw2⟩;subst w2)))
   go_ret
   exact ⟨rfl,hg1⟩
  ·have h60':¬ (60:Int)<(q.x.name.size:Int):=by omega
   go_enter Tryz.func4,Tryz.ntmps4
   go_wp2_with (first
    | (go_at_call 9;go_must ((with_reducible refine (Yc3 _).mono ?_);rintro en w1 ⟨rfl,hg1'⟩;have hg1:=Yaa HG0.out hg1';have hc1:=few14 (c:=c) (hp.later hg1) rfl hn;rw [hf] at hc1;have b1:=Yan hb3 hg1';have r8:w1.cell? ⟨w.heap.size,8,none⟩=some (.string q.x.name):=Yas b1 rfl))
    | (go_at_call 10;go_must ((with_reducible refine hc1.mono ?_);rintro en w2 ⟨rfl,hw2⟩;subst w2)))
   go_ret
   exact ⟨rfl,hg1⟩
theorem walk {w:World} {la:Option Addr} {c:Nat} {l:List Yc4} (hn:l.length≤maxLen) (ho:∀ q∈l,Yda q) (hp:Yco w la l) (q:Yc4) (hq:Yda q) :
  Calls Tryz.prog 4 #[.slice la l.length c,.agg q.C] w fun e w'=>e=.returned (.bool true)∧Below w.heap.size w w' :=
 (core hn ho hp hq).mono fun e w' ⟨h1,h2⟩=>⟨h1,⟨h2.os,h2.tape,h2.output,h2.size,fun k hk=>h2.block k hk (by simp)⟩⟩
theorem laidOut:laidOutB Tryz.prog=true:=by kernel_rfl
/-! ### The row's step: the guide's frame -/
theorem own:ownKnob Tryz.prog.godebug=none:=by kernel_rfl
set_option maxRecDepth 100000 in
theorem lifted (os:Os) (started:os.Started) (H:Type) (enc:TypeId × Value→H) :
  ReturnsInHanded {} Tryz.checked os 4 .any (Rows.modelRefusesSpec.pre6 enc Tryz.prog Tryz.f4 Rows.modelRefusesRow.domain false) (Rows.modelRefusesSpec.post enc Tryz.prog Tryz.f4 false true false false):=by
 refine returnsInHanded_of_change (C:=Tryz.checked) own started (by kernel_rfl) Tryz.func4
  (ChangeSpec.witness6 (enc:=enc) (C:=Tryz.checked) false ⟨#[],#[.slice none 0 0,.agg #[.int .i64 0,.int .i64 0,.int .u64 0,.int .u64 0,.int .u64 0,.int .u64 0,.int .u64 0,.int .i64 0,.string ByteArray.empty,.int .u8 0,.bool false]],[]⟩ 8 (by kernel_rfl) (by kernel_rfl) (by kernel_rfl) (by kernel_rfl)) ?_
 intro W base args ds gs before hval0 hW hcnd _
 have hval:∀ (j:Nat) t v,Tryz.f4.params[j]?=some t→args[j]?=some v→Value.okWide Tryz.prog W .any base t v:=hval0
 have hW':=hW
 obtain ⟨p,q,hA0,hV,rfl,hfz,hnd⟩:=hW
 have hA:DataW.TrodAll enc Tryz.prog W 0 (fun _=>true) true Tryz.f4.params.toList args.toList ds p:=hA0
 rw [Tryz.params4] at hA hval
 obtain ⟨v0,vs0,d0,ds0,p0,q0,hargs,rfl,rfl,h0,r0⟩:=trodAll_cons hA
 obtain ⟨v1,vs1,d1,ds1,p1,q1,rfl,rfl,rfl,h1,r1⟩:=trodAll_cons r0
 obtain ⟨rfl,rfl,rfl⟩:=trodAll_nil r1
 obtain rfl:args=#[v0,v1]:=by cases args;simp_all
 obtain ⟨rfl,rfl⟩:=trodVars_none hV
 have lt0:∀ x∈p0,x.block<W.heap.size:=by obtain ⟨m,hm⟩:=h0;exact DataW.trod_lt m _ _ _ hm
 obtain ⟨la0,c0,l0,rfl,hc0,hn0,ho0,hp0⟩:=Yd4 (hval 0 22 v0 rfl rfl) h0
 have lt1:∀ x∈p1,x.block<W.heap.size:=by obtain ⟨m,hm⟩:=h1;exact DataW.trod_lt m _ _ _ hm
 obtain ⟨q1,rfl,hq1⟩:=open_call (hval 1 43 v1 rfl rfl) h1
 clear hA0 hval0
 refine (walk hn0 ho0 hp0 q1 hq1).mono fun e W' ⟨he,bel⟩=>?_
 subst he
 exact ⟨_,rfl,_,_,_,[],_,[],hW',trodAll_mk1 (shut_bool Tryz.underlying4 _),(trodAll_cons_mk (Below.trod laidOut (by kernel_rfl) (of_decide_eq_true (by kernel_rfl)) h0 bel lt0) (trodAll_cons_mk (Below.trod laidOut (by kernel_rfl) (of_decide_eq_true (by kernel_rfl)) h1 bel lt1) trodAll_mk0)),rfl,bel.frame _,fun h=>by cases h⟩

theorem over:Rows.modelRefusesRow.holds Tryz.pinned (OpenSpec.ofChange Rows.modelRefusesSpec) :=
 OpenClaim.holds_of_wide 4 Tryz.f4 rfl rfl rfl rfl rfl rfl rfl ⟨rfl,rfl,rfl,rfl,rfl⟩ rfl rfl rfl rfl rfl (by kernel_rfl) Tryz.func4 (by kernel_rfl)
  (of_decide_eq_true (by kernel_rfl)) (by unfold Func.isWrapper;first|(rw [if_pos (by decide +kernel)];kernel_rfl)|(rw [if_neg (by decide +kernel)];exact ⟨rfl,rfl⟩))
  (fun os started H enc _=>lifted os started H enc)

theorem proved:Rows.ModelRefusesSaid :=
 over
#print axioms proved


end Go.Proofs.YtfhiljglfhekdaaGreat.modelRefuses
