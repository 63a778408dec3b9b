/-
  Texts of one layer, one behind the other: memory, contracts of the functions, and what follows of them.
  Conditions: as each theorem says.
-/
import Derived.Test.YtfhiljglfhekdaaGreatLCaa
import Derived.Test.YtfhiljglfhekdaaGreatLWob
import Derived.Test.YtfhiljglfhekdaaGreatLTxa
import Derived.Deep.RegionHeld3
import Derived.BigQuiet
import Derived.StillTailTactics
import Derived.Test.YtfhiljglfhekdaaGreatLTaa
import Derived.Deep.QuietTactic
import Derived.Laws.StructEq
import Derived.Deep.AppendLies
import Derived.Laws.AppendOwnNone
import Derived.RangeFuncCalls
import Derived.TacticsInMore
import Derived.OrdersIn
import Derived.Test.YtfhiljglfhekdaaGreatLSea
import Derived.Deep.LoopGhost
import Derived.Test.YtfhiljglfhekdaaGreatLHea
import Derived.Shelf.RegionOpen
import Derived.RangeFuncBox
import Derived.Test.YtfhiljglfhekdaaGreatLCla
import Derived.Test.YtfhiljglfhekdaaGreatLPha
import Derived.Test.YtfhiljglfhekdaaGreatLTra
import Derived.Sort.Grow
set_option linter.unusedVariables false
set_option linter.unusedSimpArgs false
set_option maxRecDepth 100000
namespace Go.Proofs.YtfhiljglfhekdaaGreat
open Go.RowKit
section
def Yds (bs:List Blk):Prop:=∀ k,k<bs.length→gO bs k % 16=0∧gO bs k<1000000∧gS bs k<10000000
def optZ:Option Nat→Int
 | none => -1
 | some i=>i
def fitV (bs:List Blk) (need a:Nat):Option Nat→Array Value
 | none=>#[.int .i64 0,.int .u64 0,.int .u64 0,.int .i64 3]
 | some i=>#[.int .i64 (i:Nat),.int .u64 (padN (gO bs i) a:Nat),.int .u64 (need:Nat),.int .i64 0]
theorem fitB_at (need a:Nat) (bs:List Blk) (k:Nat):fitB need a (bs.getD k default)=(!gU bs k && decide (need≤gS bs k) && decide (padN (gO bs k) a≤gS bs k - need)):=rfl
theorem Ye2 (p:Blk→Bool) (bs:List Blk) (k:Nat):Yc0 p bs (k+1)=match Yc0 p bs k with
  | none=>if p (bs.getD k default)=true then some k else none
  | some i=>if p (bs.getD k default)=true∧gS bs k<gS bs i then some k else some i:=rfl
theorem Yd6 {p:Blk→Bool} {bs:List Blk} {k:Nat} (h:p (bs.getD k default)=false):Yc0 p bs (k+1)=Yc0 p bs k:=by
 rw [Ye2,h]
 cases Yc0 p bs k with
 | none=>exact if_neg (by simp)
 | some i=>exact if_neg (fun e=>by cases e.1)
theorem rfit10_arg {a:Nat} (ha:a<18446744073709551616) (hno:¬ Ybr a) (E n:Nat) (b:Value) (vs:Nat→Value) (w:World) :
  Calls Tryz.prog 105 #[Ya1 E b vs,.int .u64 n,.int .u64 a] w fun e w'=>e=.returned (.tuple #[.int .i64 0,.int .u64 0,.int .u64 0,.int .i64 1])∧w.grownBy w' none:=by
 have hal:=fun V=>ralign_any ha V
 rw [decide_eq_false hno] at hal
 have hg0:=World.grownBy_alloc w (.cells #[.int .u64 E,b,vs 0,vs 1,vs 2,vs 3,vs 4,vs 5,vs 6,vs 7] 31) none
 clear hno
 unfold Ya1
 go_enter Tryz.func105,Tryz.ntmps105
 go_wp2_with (go_at_call 134;(with_reducible refine (hal _).mono ?_);rintro e w1 ⟨rfl,rfl⟩)
 refine bodyPost_ret (v:=.tuple #[.int .i64 0,.int .u64 0,.int .u64 0,.int .i64 1]) (by simp [results,Tryz.results105,go_sem]) rfl ?_
 exact ⟨rfl,hg0⟩
theorem rfit10_size {n a:Nat} (ha:Ybr a) (hn:18446744073709551560<n) (hn64:n<18446744073709551616) (E:Nat) (b:Value) (vs:Nat→Value) (w:World) :
  Calls Tryz.prog 105 #[Ya1 E b vs,.int .u64 n,.int .u64 a] w fun e w'=>e=.returned (.tuple #[.int .i64 0,.int .u64 0,.int .u64 0,.int .i64 2])∧w.grownBy w' none:=by
 have hal:=fun V=>ralign_any (a:=a) (by have:=ha.le;omega) V
 rw [decide_eq_true ha] at hal
 have hnd:=fun V=>rneed_high n hn64 (by omega) V
 have hg0:=World.grownBy_alloc w (.cells #[.int .u64 E,b,vs 0,vs 1,vs 2,vs 3,vs 4,vs 5,vs 6,vs 7] 31) none
 clear ha hn hn64
 unfold Ya1
 go_enter Tryz.func105,Tryz.ntmps105
 go_wp2_with (first|(go_at_call 134;(with_reducible refine (hal _).mono ?_);rintro e w1 ⟨rfl,rfl⟩)|(go_at_call 19;(with_reducible refine (hnd _).mono ?_);rintro e w1 ⟨rfl,rfl⟩))
 refine bodyPost_ret (v:=.tuple #[.int .i64 0,.int .u64 0,.int .u64 0,.int .i64 2]) (by simp [results,Tryz.results105,go_sem]) rfl ?_
 exact ⟨rfl,hg0⟩
set_option maxHeartbeats 16000000 in
theorem Yes {w:World} {base:Nat} {v:Value} {E:Nat} {bs:List Blk} {L:Nat→List Nat} (h:HvIs w base v E bs L) (hlen:bs.length≤1000) (hbd:Yds bs) {n a:Nat} (ha:Ybr a) (hn:n≤18446744073709551560) :
  Calls Tryz.prog 105 #[v,.int .u64 n,.int .u64 a] w fun e w'=>e=.returned (.tuple (fitV bs (Yat n) a (fitM bs n a)))∧w.grownBy w' none:=by
 obtain ⟨b,vs,rfl,ho,hl⟩:=h.is
 obtain ⟨la,c,rfl,hb⟩:=ho.at_
 have hal:=fun V=>ralign_any (a:=a) (by have:=ha.le;omega) V
 rw [decide_eq_true ha] at hal
 have hnd:=fun V=>Ycw n (by omega) V
 have hnd64:Yat n<18446744073709551616:=by unfold Yat;split <;> omega
 have hbest:=Yd0 (fitB (Yat n) a) bs bs.length
 unfold fitM
 obtain ⟨N,hN⟩:∃ N,bs.length=N:=⟨_,rfl⟩
 obtain ⟨nd,hndq⟩:∃ nd,Yat n=nd:=⟨_,rfl⟩
 rw [hndq] at hnd hnd64 hbest ⊢
 rw [hN] at hlen hbest ⊢
 unfold Yds at hbd
 rw [hN] at hbd
 have hg0:=World.grownBy_alloc w (.cells #[.int .u64 E,.slice la N c,vs 0,vs 1,vs 2,vs 3,vs 4,vs 5,vs 6,vs 7] 31) none
 have hbx:∀ V:World,(w.alloc (.cells #[.int .u64 E,.slice la N c,vs 0,vs 1,vs 2,vs 3,vs 4,vs 5,vs 6,vs 7] 31)).grownBy V none→V.cell? ⟨w.heap.size,1,none⟩=some (.slice la N c):=fun V hg=>by
  have:=(hg.block _ (by simp) (by simp)).trans (Yab w (.cells #[.int .u64 E,.slice la N c,vs 0,vs 1,vs 2,vs 3,vs 4,vs 5,vs 6,vs 7] 31))
  simp [World.cell?,this]
 obtain ⟨W0,hW0⟩:∃ W0,w.alloc (.cells #[.int .u64 E,.slice la N c,vs 0,vs 1,vs 2,vs 3,vs 4,vs 5,vs 6,vs 7] 31)=W0:=⟨_,rfl⟩
 rw [hW0] at hg0 hbx
 have HPD:=Lib.hid (show ∀ (x:Nat),x % 16=0→x<1000000→∀ V:World,Calls Tryz.prog 135 #[.int .u64 x,.int .u64 a] V fun e w'=>e=.returned (.int .u64 (padN x a:Nat))∧V=w' from fun x h1 h2 V=>rpad_any ha h1 (by omega) V)
 have HBX:=Lib.hid hbx
 have HN:=Lib.hid hN
 have HBD:=Lib.hid hbd
 have HBL:=Lib.hid (fun (V:World) (hg:w.grownBy V none)=>hb.later hg)
 have HG0:=Lib.hid hg0
 have HBE:=Lib.hid hbest
 obtain ⟨p,hp⟩:∃ p,fitB nd a=p:=⟨_,rfl⟩
 have HP:=Lib.hid hp
 rw [hp] at HBE ⊢
 obtain ⟨rv,hrv⟩:∃ rv,fitV bs nd a (Yc0 p bs N)=rv:=⟨_,rfl⟩
 rw [hrv]
 have HRV:=Lib.hid hrv
 clear hrv
 obtain ⟨hb0,hhb0⟩:∃ q,w.heap.size=q:=⟨_,rfl⟩
 rw [hhb0] at HBX
 clear ho hl hb hN hbd hbx hbest hndq hp h ha hn
 unfold Ya1
 go_enter Tryz.func105,Tryz.ntmps105
 go_wp2_with (first|(go_at_call 134;(with_reducible refine (hal _).mono ?_);rintro e w1 ⟨rfl,rfl⟩)|(go_at_call 19;(with_reducible refine (hnd _).mono ?_);rintro e w1 ⟨rfl,rfl⟩))
 (try rw [hW0])
 (try rw [hhb0])
 clear hW0 hg0 hal hnd
 go_loopw [13,12] (fun i v wr=>∃ k:Nat,k≤N∧i=.int .i64 k∧v=.int .i64 (optZ (Yc0 p bs k))∧W0.grownBy wr none) (fun i _ _=>N - (intOf i).toNat)
 case atStart=>exact ⟨0,Nat.zero_le _,rfl,rfl,Yag _ _⟩
 case round =>
  obtain ⟨k,hk,rfl,rfl,hgr⟩:=hrel
  have q0:=HBX.out wr hgr
  by_cases h1:k<N
  ·have h1':(k:Int)<(N:Int):=by omega
   obtain ⟨bb,off,rfl,hbb,hcs⟩:=(HBL.out wr (Yaa HG0.out hgr)).cells (by rw [HN.out];omega)
   obtain ⟨hO16,hOlt,hSlt⟩:=HBD.out k h1
   have hfit:=fitB_at nd a bs k
   rw [HP.out] at hfit
   obtain ⟨c0,c1,c2,c3,c4⟩:=hcs k (by rw [HN.out];exact h1)
   have HCS:=Lib.hid hcs
   obtain ⟨x,hx⟩:∃ x,gO bs k=x:=⟨_,rfl⟩
   obtain ⟨s,hs⟩:∃ s,gS bs k=s:=⟨_,rfl⟩
   obtain ⟨u,hu⟩:∃ u,gU bs k=u:=⟨_,rfl⟩
   obtain ⟨o,ho⟩:∃ o,gW bs k=o:=⟨_,rfl⟩
   obtain ⟨m,hm⟩:∃ m,gN bs k=m:=⟨_,rfl⟩
   rw [hx] at c0 hO16 hOlt hfit
   rw [hs] at c1 hSlt hfit
   rw [hu] at c2 hfit
   rw [ho] at c3
   rw [hm] at c4
   have HS:=Lib.hid hs
   have hpd:=HPD.out x hO16 hOlt
   obtain ⟨P,hP⟩:∃ P,padN x a=P:=⟨_,rfl⟩
   rw [hP] at hpd hfit
   have HFIT:=Lib.hid hfit
   obtain ⟨bz,hbz⟩:∃ z,optZ (Yc0 p bs k)=z:=⟨_,rfl⟩
   rw [hbz]
   have HBZ:=Lib.hid hbz
   clear hcs hfit hx hs hu ho hm hP hbz
   go_wp2
   obtain ⟨W5,hW5⟩:∃ W5,wr.alloc (.cells #[.int .u64 x,.int .u64 s,.bool u,.int .i64 o,.int .u64 m] 81)=W5:=⟨_,rfl⟩
   have hg5:W0.grownBy W5 none:=by rw [← hW5];exact Yaa hgr (World.grownBy_alloc _ _ _)
   have hc5:∀ V:World,W5.grownBy V none→V.cell? ⟨wr.heap.size,0,none⟩=some (.int .u64 x)∧V.cell? ⟨wr.heap.size,1,none⟩=some (.int .u64 s)∧V.cell? ⟨wr.heap.size,2,none⟩=some (.bool u):=fun V hg=>by
    obtain ⟨y0,y1,y2,_⟩:=Yaw (five_first (w:=wr) (x:=.int .u64 x) (y:=.int .u64 s) (z:=.bool u) (p:=.int .i64 o) (q:=.int .u64 m) (t:=81) (by rw [hW5];exact hg))
    exact ⟨y0,y1,y2⟩
   rw [hW5]
   obtain ⟨b5,hb5⟩:∃ b5,wr.heap.size=b5:=⟨_,rfl⟩
   rw [hb5] at hc5 ⊢
   have HC5:=Lib.hid hc5
   have hd5:W5.grownBy W5.drew none:=Yah (Yag _ none)
   have HGD:=Lib.hid (Yaa hg5 hd5)
   obtain ⟨z0,z1,z2⟩:=hc5 _ hd5
   obtain ⟨t0,t1,t2⟩:=hc5 _ (Yag _ none)
   clear hW5 hc5 c0 c1 c2 c3 c4
   cases u with
   | true =>
    have HNO:Hid (p (bs.getD k default)=false):=Lib.hid (by rw [HFIT.out];rfl)
    refine wp_region_held_drew (S:=fun w'=>w'.cell? ⟨b5,2,none⟩=some (.bool true)) (by kernel_rfl) z2 (fun hHeld=>?_)
    refine hY 0 37 (v:=?_) rfl rfl hHeld ?y0 ?r0
    case y0=>(intro w hSw;(try dsimp only at hSw);go_simp;try (with_reducible rfl))
    case r0 =>
    simp only [Act.put,List.setIfInBounds_toArray,List.set_cons_zero,List.set_cons_succ]
    refine hY 1 38 (v:=?_) rfl rfl hHeld ?y1 ?r1
    case y1=>(intro w hSw;(try dsimp only at hSw);go_simp;try (with_reducible rfl))
    case r1 =>
    simp only [Act.put,List.setIfInBounds_toArray,List.set_cons_zero,List.set_cons_succ]
    refine hY 2 39 (v:=?_) rfl rfl hHeld ?y2 ?r2
    case y2=>(intro w hSw;(try dsimp only at hSw);go_simp;try (with_reducible rfl))
    case r2 =>
    simp only [Act.put,List.setIfInBounds_toArray,List.set_cons_zero,List.set_cons_succ]
    refine hY 3 40 (v:=?_) rfl rfl hHeld ?y3 ?r3
    case y3=>(intro w hSw;(try dsimp only at hSw);go_simp;try (with_reducible rfl))
    case r3 =>
    simp only [Act.put,List.setIfInBounds_toArray,List.set_cons_zero,List.set_cons_succ]
    refine Ya7 4 41 rfl rfl (by kernel_rfl) (by kernel_rfl) (by kernel_rfl) (fun _ _ _ h=>h) (by kernel_rfl) hHeld ?_
    simp only [Act.put,List.setIfInBounds_toArray,List.set_cons_zero,List.set_cons_succ]
    refine Ya7 5 42 rfl rfl (by kernel_rfl) (by kernel_rfl) (by kernel_rfl) (fun _ _ _ h=>h) (by kernel_rfl) hHeld ?_
    simp only [Act.put,List.setIfInBounds_toArray,List.set_cons_zero,List.set_cons_succ]
    refine Ya7 6 43 rfl rfl (by kernel_rfl) (by kernel_rfl) (by kernel_rfl) (fun _ _ _ h=>h) (by kernel_rfl) hHeld ?_
    simp only [Act.put,List.setIfInBounds_toArray,List.set_cons_zero,List.set_cons_succ]
    refine Ya7 7 44 rfl rfl (by kernel_rfl) (by kernel_rfl) (by kernel_rfl) (fun _ _ _ h=>h) (by kernel_rfl) hHeld ?_
    simp only [Act.put,List.setIfInBounds_toArray,List.set_cons_zero,List.set_cons_succ]
    refine Ya7 8 45 rfl rfl (by kernel_rfl) (by kernel_rfl) (by kernel_rfl) (fun _ _ _ h=>h) (by kernel_rfl) hHeld ?_
    simp only [Act.put,List.setIfInBounds_toArray,List.set_cons_zero,List.set_cons_succ]
    refine hY 9 46 (v:=?_) rfl rfl hHeld ?y9 ?r9
    case y9=>(intro w hSw;(try dsimp only at hSw);go_simp;try (with_reducible rfl))
    case r9 =>
    simp only [Act.put,List.setIfInBounds_toArray,List.set_cons_zero,List.set_cons_succ]
    refine hY 10 47 (v:=?_) rfl rfl hHeld ?y10 ?r10
    case y10=>(intro w hSw;(try dsimp only at hSw);go_simp;try (with_reducible rfl))
    case r10 =>
    simp only [Act.put,List.setIfInBounds_toArray,List.set_cons_zero,List.set_cons_succ]
    refine Ya7 11 48 rfl rfl (by kernel_rfl) (by kernel_rfl) (by kernel_rfl) (fun _ _ _ h=>h) (by kernel_rfl) hHeld ?_
    simp only [Act.put,List.setIfInBounds_toArray,List.set_cons_zero,List.set_cons_succ]
    refine Ya7 12 49 rfl rfl (by kernel_rfl) (by kernel_rfl) (by kernel_rfl) (fun _ _ _ h=>h) (by kernel_rfl) hHeld ?_
    simp only [Act.put,List.setIfInBounds_toArray,List.set_cons_zero,List.set_cons_succ]
    refine Ya7 13 50 rfl rfl (by kernel_rfl) (by kernel_rfl) (by kernel_rfl) (fun _ _ _ h=>h) (by kernel_rfl) hHeld ?_
    simp only [Act.put,List.setIfInBounds_toArray,List.set_cons_zero,List.set_cons_succ]
    refine Ya7 14 51 rfl rfl (by kernel_rfl) (by kernel_rfl) (by kernel_rfl) (fun _ _ _ h=>h) (by kernel_rfl) hHeld ?_
    simp only [Act.put,List.setIfInBounds_toArray,List.set_cons_zero,List.set_cons_succ]
    refine Ya7 15 52 rfl rfl (by kernel_rfl) (by kernel_rfl) (by kernel_rfl) (fun _ _ _ h=>h) (by kernel_rfl) hHeld ?_
    simp only [Act.put,List.setIfInBounds_toArray,List.set_cons_zero,List.set_cons_succ]
    refine Ya7 16 53 rfl rfl (by kernel_rfl) (by kernel_rfl) (by kernel_rfl) (fun _ _ _ h=>h) (by kernel_rfl) hHeld ?_
    simp only [Act.put,List.setIfInBounds_toArray,List.set_cons_zero,List.set_cons_succ]
    refine Ya7 17 54 rfl rfl (by kernel_rfl) (by kernel_rfl) (by kernel_rfl) (fun _ _ _ h=>h) (by kernel_rfl) hHeld ?_
    simp only [Act.put,List.setIfInBounds_toArray,List.set_cons_zero,List.set_cons_succ]
    refine Ya7 18 55 rfl rfl (by kernel_rfl) (by kernel_rfl) (by kernel_rfl) (fun _ _ _ h=>h) (by kernel_rfl) hHeld ?_
    simp only [Act.put,List.setIfInBounds_toArray,List.set_cons_zero,List.set_cons_succ]
    refine Ya7 19 56 rfl rfl (by kernel_rfl) (by kernel_rfl) (by kernel_rfl) (fun _ _ _ h=>h) (by kernel_rfl) hHeld ?_
    simp only [Act.put,List.setIfInBounds_toArray,List.set_cons_zero,List.set_cons_succ]
    refine Ya7 20 57 rfl rfl (by kernel_rfl) (by kernel_rfl) (by kernel_rfl) (fun _ _ _ h=>h) (by kernel_rfl) hHeld ?_
    simp only [Act.put,List.setIfInBounds_toArray,List.set_cons_zero,List.set_cons_succ]
    refine hY 21 58 (v:=?_) rfl rfl hHeld ?y21 ?r21
    case y21=>(intro w hSw;(try dsimp only at hSw);go_simp;try (with_reducible rfl))
    case r21 =>
    simp only [Act.put,List.setIfInBounds_toArray,List.set_cons_zero,List.set_cons_succ]
    refine wpAnyH_done (by kernel_rfl) ?_ _
    go_wp2
    first
     | exact ⟨⟨k+1,by omega,by go_num,(by rw [Yd6 HNO.out,HBZ.out]),HGD.out⟩,by simp [intOf];omega⟩
     | (go_roundw;(case rel=>exact ⟨k+1,by omega,by go_num,(by rw [Yd6 HNO.out,HBZ.out]),HGD.out⟩);(case measure=>simp [intOf];omega))
   | false =>
    by_cases hsz:nd≤s
    ·have hsz':¬ (s:Int)<(nd:Int):=by omega
     obtain ⟨d,hd⟩:∃ d,s - nd=d:=⟨_,rfl⟩
     have ed:IntKind.u64.wrap ((s:Int) - (nd:Int))=(d:Nat):=by rw [IntKind.wrap_u64];omega
     by_cases hpd2:P≤d
     ·have hpd':¬ (d:Int)<(P:Int):=by omega
      have hyes:p (bs.getD k default)=true:=by rw [HFIT.out,decide_eq_true hsz,hd,decide_eq_true hpd2];rfl
      have HYES:=Lib.hid hyes
      clear hd hyes
      go_region_held3 (fun w'=>w'.cell? ⟨b5,0,none⟩=some (.int .u64 x)∧w'.cell? ⟨b5,1,none⟩=some (.int .u64 s)∧w'.cell? ⟨b5,2,none⟩=some (.bool false)) (go_keep)
       (first|(go_at_call 135;(with_reducible refine (hpd _).mono ?_);rintro e w6 ⟨rfl,rfl⟩))
      go_wp2
      cases hbk:Yc0 p bs k with
      | none =>
       rw [hbk] at HBZ
       obtain rfl:bz = -1:=HBZ.out.symm
       have hnx:Yc0 p bs (k+1)=some k:=by rw [Ye2,hbk];exact if_pos HYES.out
       have HNX:=Lib.hid hnx
       clear hnx hbk
       refine wp_region_held_drew (S:=fun w'=>True) (by kernel_rfl) trivial (fun hHeld=>?_)
       refine hY 0 59 (v:=?_) rfl rfl hHeld ?y0 ?r0
       case y0=>(intro w hSw;(try dsimp only at hSw);go_simp;try (with_reducible rfl))
       case r0 =>
       simp only [Act.put,List.setIfInBounds_toArray,List.set_cons_zero,List.set_cons_succ]
       refine hY 1 60 (v:=?_) rfl rfl hHeld ?y1 ?r1
       case y1=>(intro w hSw;(try dsimp only at hSw);go_simp;try (with_reducible rfl))
       case r1 =>
       simp only [Act.put,List.setIfInBounds_toArray,List.set_cons_zero,List.set_cons_succ]
       refine hY 2 61 (v:=?_) rfl rfl hHeld ?y2 ?r2
       case y2=>(intro w hSw;(try dsimp only at hSw);go_simp;try (with_reducible rfl))
       case r2 =>
       simp only [Act.put,List.setIfInBounds_toArray,List.set_cons_zero,List.set_cons_succ]
       refine Ya7 3 62 rfl rfl (by kernel_rfl) (by kernel_rfl) (by kernel_rfl) (fun _ _ _ h=>h) (by kernel_rfl) hHeld ?_
       simp only [Act.put,List.setIfInBounds_toArray,List.set_cons_zero,List.set_cons_succ]
       refine Ya7 4 63 rfl rfl (by kernel_rfl) (by kernel_rfl) (by kernel_rfl) (fun _ _ _ h=>h) (by kernel_rfl) hHeld ?_
       simp only [Act.put,List.setIfInBounds_toArray,List.set_cons_zero,List.set_cons_succ]
       refine Ya7 5 64 rfl rfl (by kernel_rfl) (by kernel_rfl) (by kernel_rfl) (fun _ _ _ h=>h) (by kernel_rfl) hHeld ?_
       simp only [Act.put,List.setIfInBounds_toArray,List.set_cons_zero,List.set_cons_succ]
       refine Ya7 6 65 rfl rfl (by kernel_rfl) (by kernel_rfl) (by kernel_rfl) (fun _ _ _ h=>h) (by kernel_rfl) hHeld ?_
       simp only [Act.put,List.setIfInBounds_toArray,List.set_cons_zero,List.set_cons_succ]
       refine Ya7 7 66 rfl rfl (by kernel_rfl) (by kernel_rfl) (by kernel_rfl) (fun _ _ _ h=>h) (by kernel_rfl) hHeld ?_
       simp only [Act.put,List.setIfInBounds_toArray,List.set_cons_zero,List.set_cons_succ]
       refine Ya7 8 67 rfl rfl (by kernel_rfl) (by kernel_rfl) (by kernel_rfl) (fun _ _ _ h=>h) (by kernel_rfl) hHeld ?_
       simp only [Act.put,List.setIfInBounds_toArray,List.set_cons_zero,List.set_cons_succ]
       refine Ya7 9 68 rfl rfl (by kernel_rfl) (by kernel_rfl) (by kernel_rfl) (fun _ _ _ h=>h) (by kernel_rfl) hHeld ?_
       simp only [Act.put,List.setIfInBounds_toArray,List.set_cons_zero,List.set_cons_succ]
       refine Ya7 10 69 rfl rfl (by kernel_rfl) (by kernel_rfl) (by kernel_rfl) (fun _ _ _ h=>h) (by kernel_rfl) hHeld ?_
       simp only [Act.put,List.setIfInBounds_toArray,List.set_cons_zero,List.set_cons_succ]
       refine Ya7 11 70 rfl rfl (by kernel_rfl) (by kernel_rfl) (by kernel_rfl) (fun _ _ _ h=>h) (by kernel_rfl) hHeld ?_
       simp only [Act.put,List.setIfInBounds_toArray,List.set_cons_zero,List.set_cons_succ]
       refine Ya7 12 71 rfl rfl (by kernel_rfl) (by kernel_rfl) (by kernel_rfl) (fun _ _ _ h=>h) (by kernel_rfl) hHeld ?_
       simp only [Act.put,List.setIfInBounds_toArray,List.set_cons_zero,List.set_cons_succ]
       refine Ya7 13 72 rfl rfl (by kernel_rfl) (by kernel_rfl) (by kernel_rfl) (fun _ _ _ h=>h) (by kernel_rfl) hHeld ?_
       simp only [Act.put,List.setIfInBounds_toArray,List.set_cons_zero,List.set_cons_succ]
       refine hY 14 73 (v:=?_) rfl rfl hHeld ?y14 ?r14
       case y14=>(intro w hSw;(try dsimp only at hSw);go_simp;try (with_reducible rfl))
       case r14 =>
       simp only [Act.put,List.setIfInBounds_toArray,List.set_cons_zero,List.set_cons_succ]
       refine wpAnyH_done (by kernel_rfl) ?_ _
       go_wp2
       first
        | exact ⟨⟨k+1,by omega,by go_num,(by rw [HNX.out];rfl),(Yah HGD.out)⟩,by simp [intOf];omega⟩
        | (go_roundw;(case rel=>exact ⟨k+1,by omega,by go_num,(by rw [HNX.out];rfl),(Yah HGD.out)⟩);(case measure=>simp [intOf];omega))
      | some i =>
       rw [hbk] at HBZ
       obtain rfl:bz=(i:Int):=HBZ.out.symm
       have hbi:=Yd0 p bs k
       rw [hbk] at hbi
       have hik:i<k:=hbi.1
       have hi0:¬ (i:Int)<0:=by omega
       have hi1:(0:Int)≤(i:Int):=by omega
       have hi2:(i:Int)<(N:Int):=by omega
       have hcb:∀ V:World,W0.grownBy V none→V.cell? ⟨bb,off+i*5+1,none⟩=some (.int .u64 (gS bs i:Nat)):=fun V hg=>by
        obtain ⟨b2,o2,e2,_,hcs⟩:=(HBL.out V (Yaa HG0.out hg)).cells (by rw [HN.out];omega)
        injection e2 with e2
        injection e2 with f1 f2
        subst f1 f2
        exact (hcs i (by rw [HN.out];omega)).2.1
       obtain ⟨si,hsi⟩:∃ si,gS bs i=si:=⟨_,rfl⟩
       rw [hsi] at hcb
       have v0:=HBX.out _ HGD.out
       have v1:=hcb _ HGD.out
       have v2:=HBX.out _ (Yah HGD.out)
       have v3:=hcb _ (Yah HGD.out)
       by_cases hlt:s<si
       ·have hlt':(s:Int)<(si:Int):=by omega
        have hnx:Yc0 p bs (k+1)=some k:=by rw [Ye2,hbk];exact if_pos ⟨HYES.out,by rw [HS.out,hsi];exact hlt⟩
        have HNX:=Lib.hid hnx
        clear hnx hbk hbi hsi hcb
        go_region_held3 (fun w'=>w'.cell? ⟨b5,1,none⟩=some (.int .u64 s)∧w'.cell? ⟨hb0,1,none⟩=some (.slice (some ⟨bb,off,none⟩) N c)∧w'.cell? ⟨bb,off+i*5+1,none⟩=some (.int .u64 si)) (go_keep) (fail)
        go_wp2
        first
         | exact ⟨⟨k+1,by omega,by go_num,(by rw [HNX.out];rfl),(Yah HGD.out)⟩,by simp [intOf];omega⟩
         | (go_roundw;(case rel=>exact ⟨k+1,by omega,by go_num,(by rw [HNX.out];rfl),(Yah HGD.out)⟩);(case measure=>simp [intOf];omega))
       ·have hlt':¬ (s:Int)<(si:Int):=by omega
        have hnx:Yc0 p bs (k+1)=some i:=by rw [Ye2,hbk];exact if_neg (fun e=>hlt (by have:=e.2;rw [HS.out,hsi] at this;exact this))
        have HNX:=Lib.hid hnx
        clear hnx hbk hbi hsi hcb
        go_region_held3 (fun w'=>w'.cell? ⟨b5,1,none⟩=some (.int .u64 s)∧w'.cell? ⟨hb0,1,none⟩=some (.slice (some ⟨bb,off,none⟩) N c)∧w'.cell? ⟨bb,off+i*5+1,none⟩=some (.int .u64 si)) (go_keep) (fail)
        go_wp2
        first
         | exact ⟨⟨k+1,by omega,by go_num,(by rw [HNX.out];rfl),(Yah HGD.out)⟩,by simp [intOf];omega⟩
         | (go_roundw;(case rel=>exact ⟨k+1,by omega,by go_num,(by rw [HNX.out];rfl),(Yah HGD.out)⟩);(case measure=>simp [intOf];omega))
     ·have hpd':(d:Int)<(P:Int):=by omega
      have HNO:Hid (p (bs.getD k default)=false):=Lib.hid (by rw [HFIT.out,hd,decide_eq_false hpd2];simp)
      clear hd
      go_region_held3 (fun w'=>w'.cell? ⟨b5,0,none⟩=some (.int .u64 x)∧w'.cell? ⟨b5,1,none⟩=some (.int .u64 s)∧w'.cell? ⟨b5,2,none⟩=some (.bool false)) (go_keep)
       (first|(go_at_call 135;(with_reducible refine (hpd _).mono ?_);rintro e w6 ⟨rfl,rfl⟩))
      go_wp2
      first
       | exact ⟨⟨k+1,by omega,by go_num,(by rw [Yd6 HNO.out,HBZ.out]),HGD.out⟩,by simp [intOf];omega⟩
       | (go_roundw;(case rel=>exact ⟨k+1,by omega,by go_num,(by rw [Yd6 HNO.out,HBZ.out]),HGD.out⟩);(case measure=>simp [intOf];omega))
    ·have hsz':(s:Int)<(nd:Int):=by omega
     have HNO:Hid (p (bs.getD k default)=false):=Lib.hid (by rw [HFIT.out,decide_eq_false hsz];rfl)
     refine wp_region_held_drew (S:=fun w'=>w'.cell? ⟨b5,1,none⟩=some (.int .u64 s)∧w'.cell? ⟨b5,2,none⟩=some (.bool false)) (by kernel_rfl) ⟨z1,z2⟩ (fun hHeld=>?_)
     refine hY 0 37 (v:=?_) rfl rfl hHeld ?y0 ?r0
     case y0=>(intro w hSw;(try dsimp only at hSw);go_simp;try (with_reducible rfl))
     case r0 =>
     simp only [Act.put,List.setIfInBounds_toArray,List.set_cons_zero,List.set_cons_succ]
     refine hY 1 38 (v:=?_) rfl rfl hHeld ?y1 ?r1
     case y1=>(intro w hSw;(try dsimp only at hSw);go_simp;try (with_reducible rfl))
     case r1 =>
     simp only [Act.put,List.setIfInBounds_toArray,List.set_cons_zero,List.set_cons_succ]
     refine hY 2 39 (v:=?_) rfl rfl hHeld ?y2 ?r2
     case y2=>(intro w hSw;(try dsimp only at hSw);go_simp;try (with_reducible rfl))
     case r2 =>
     simp only [Act.put,List.setIfInBounds_toArray,List.set_cons_zero,List.set_cons_succ]
     refine hY 3 40 (v:=?_) rfl rfl hHeld ?y3 ?r3
     case y3=>(intro w hSw;(try dsimp only at hSw);go_simp;try (with_reducible rfl))
     case r3 =>
     simp only [Act.put,List.setIfInBounds_toArray,List.set_cons_zero,List.set_cons_succ]
     refine hY 4 41 (v:=?_) rfl rfl hHeld ?y4 ?r4
     case y4=>(intro w hSw;(try dsimp only at hSw);go_simp;try (with_reducible rfl))
     case r4 =>
     simp only [Act.put,List.setIfInBounds_toArray,List.set_cons_zero,List.set_cons_succ]
     refine hY 5 42 (v:=?_) rfl rfl hHeld ?y5 ?r5
     case y5=>(intro w hSw;(try dsimp only at hSw);go_simp;try (with_reducible rfl))
     case r5 =>
     simp only [Act.put,List.setIfInBounds_toArray,List.set_cons_zero,List.set_cons_succ]
     refine hY 6 43 (v:=?_) rfl rfl hHeld ?y6 ?r6
     case y6=>(intro w hSw;(try dsimp only at hSw);go_simp;try (with_reducible rfl))
     case r6 =>
     simp only [Act.put,List.setIfInBounds_toArray,List.set_cons_zero,List.set_cons_succ]
     refine hY 7 44 (v:=?_) rfl rfl hHeld ?y7 ?r7
     case y7=>(intro w hSw;(try dsimp only at hSw);go_simp;try (with_reducible rfl))
     case r7 =>
     simp only [Act.put,List.setIfInBounds_toArray,List.set_cons_zero,List.set_cons_succ]
     refine hY 8 45 (v:=?_) rfl rfl hHeld ?y8 ?r8
     case y8=>(intro w hSw;(try dsimp only at hSw);go_simp;try (with_reducible rfl))
     case r8 =>
     simp only [Act.put,List.setIfInBounds_toArray,List.set_cons_zero,List.set_cons_succ]
     refine hY 9 46 (v:=?_) rfl rfl hHeld ?y9 ?r9
     case y9=>(intro w hSw;(try dsimp only at hSw);go_simp;try (with_reducible rfl))
     case r9 =>
     simp only [Act.put,List.setIfInBounds_toArray,List.set_cons_zero,List.set_cons_succ]
     refine hY 10 47 (v:=?_) rfl rfl hHeld ?y10 ?r10
     case y10=>(intro w hSw;(try dsimp only at hSw);go_simp;try (with_reducible rfl))
     case r10 =>
     simp only [Act.put,List.setIfInBounds_toArray,List.set_cons_zero,List.set_cons_succ]
     refine Ya7 11 48 rfl rfl (by kernel_rfl) (by kernel_rfl) (by kernel_rfl) (fun _ _ _ h=>h) (by kernel_rfl) hHeld ?_
     simp only [Act.put,List.setIfInBounds_toArray,List.set_cons_zero,List.set_cons_succ]
     refine Ya7 12 49 rfl rfl (by kernel_rfl) (by kernel_rfl) (by kernel_rfl) (fun _ _ _ h=>h) (by kernel_rfl) hHeld ?_
     simp only [Act.put,List.setIfInBounds_toArray,List.set_cons_zero,List.set_cons_succ]
     refine Ya7 13 50 rfl rfl (by kernel_rfl) (by kernel_rfl) (by kernel_rfl) (fun _ _ _ h=>h) (by kernel_rfl) hHeld ?_
     simp only [Act.put,List.setIfInBounds_toArray,List.set_cons_zero,List.set_cons_succ]
     refine Ya7 14 51 rfl rfl (by kernel_rfl) (by kernel_rfl) (by kernel_rfl) (fun _ _ _ h=>h) (by kernel_rfl) hHeld ?_
     simp only [Act.put,List.setIfInBounds_toArray,List.set_cons_zero,List.set_cons_succ]
     refine Ya7 15 52 rfl rfl (by kernel_rfl) (by kernel_rfl) (by kernel_rfl) (fun _ _ _ h=>h) (by kernel_rfl) hHeld ?_
     simp only [Act.put,List.setIfInBounds_toArray,List.set_cons_zero,List.set_cons_succ]
     refine Ya7 16 53 rfl rfl (by kernel_rfl) (by kernel_rfl) (by kernel_rfl) (fun _ _ _ h=>h) (by kernel_rfl) hHeld ?_
     simp only [Act.put,List.setIfInBounds_toArray,List.set_cons_zero,List.set_cons_succ]
     refine Ya7 17 54 rfl rfl (by kernel_rfl) (by kernel_rfl) (by kernel_rfl) (fun _ _ _ h=>h) (by kernel_rfl) hHeld ?_
     simp only [Act.put,List.setIfInBounds_toArray,List.set_cons_zero,List.set_cons_succ]
     refine Ya7 18 55 rfl rfl (by kernel_rfl) (by kernel_rfl) (by kernel_rfl) (fun _ _ _ h=>h) (by kernel_rfl) hHeld ?_
     simp only [Act.put,List.setIfInBounds_toArray,List.set_cons_zero,List.set_cons_succ]
     refine Ya7 19 56 rfl rfl (by kernel_rfl) (by kernel_rfl) (by kernel_rfl) (fun _ _ _ h=>h) (by kernel_rfl) hHeld ?_
     simp only [Act.put,List.setIfInBounds_toArray,List.set_cons_zero,List.set_cons_succ]
     refine Ya7 20 57 rfl rfl (by kernel_rfl) (by kernel_rfl) (by kernel_rfl) (fun _ _ _ h=>h) (by kernel_rfl) hHeld ?_
     simp only [Act.put,List.setIfInBounds_toArray,List.set_cons_zero,List.set_cons_succ]
     refine hY 21 58 (v:=?_) rfl rfl hHeld ?y21 ?r21
     case y21=>(intro w hSw;(try dsimp only at hSw);go_simp;try (with_reducible rfl))
     case r21 =>
     simp only [Act.put,List.setIfInBounds_toArray,List.set_cons_zero,List.set_cons_succ]
     refine wpAnyH_done (by kernel_rfl) ?_ _
     go_wp2
     first
      | exact ⟨⟨k+1,by omega,by go_num,(by rw [Yd6 HNO.out,HBZ.out]),HGD.out⟩,by simp [intOf];omega⟩
      | (go_roundw;(case rel=>exact ⟨k+1,by omega,by go_num,(by rw [Yd6 HNO.out,HBZ.out]),HGD.out⟩);(case measure=>simp [intOf];omega))
  ·obtain rfl:k=N:=by omega
   have h1':¬ (k:Int)<(k:Int):=by omega
   cases hbk:Yc0 p bs k with
   | none =>
    have hz:optZ (none:Option Nat) = -1:=rfl
    rw [hz]
    rw [hbk] at HRV
    clear hbk HBE
    go_wp2
    refine bodyPost_ret (v:=.tuple #[.int .i64 0,.int .u64 0,.int .u64 0,.int .i64 3]) (by simp [results,Tryz.results105,go_sem]) rfl ?_
    exact ⟨by rw [← HRV.out];rfl,Yaa HG0.out hgr⟩
   | some i =>
    rw [hbk] at HBE
    have hik:i<k:=HBE.out.1
    have hz:optZ (some i)=(i:Int):=rfl
    rw [hz]
    have hi0:¬ (i:Int)<0:=by omega
    have hi1:(0:Int)≤(i:Int):=by omega
    have hi2:(i:Int)<(k:Int):=by omega
    obtain ⟨bb,off,rfl,hbb,hcs⟩:=(HBL.out wr (Yaa HG0.out hgr)).cells (by rw [HN.out];omega)
    obtain ⟨c0,_,_,_,_⟩:=hcs i (by rw [HN.out];exact hik)
    obtain ⟨hO16,hOlt,_⟩:=HBD.out i hik
    have hpd:=HPD.out (gO bs i) hO16 hOlt
    obtain ⟨x,hx⟩:∃ x,gO bs i=x:=⟨_,rfl⟩
    rw [hx] at hpd c0
    obtain ⟨P,hP⟩:∃ P,padN x a=P:=⟨_,rfl⟩
    rw [hP] at hpd
    have HX:=Lib.hid hx
    have HPP:=Lib.hid hP
    rw [hbk] at HRV
    clear hcs hx hP hbk HBE
    go_wp2_with (go_at_call 135;(with_reducible refine (hpd _).mono ?_);rintro e w6 ⟨rfl,rfl⟩)
    refine bodyPost_ret (v:=.tuple #[.int .i64 i,.int .u64 P,.int .u64 nd,.int .i64 0]) (by simp [results,Tryz.results105,go_sem]) rfl ?_
    refine ⟨?_,Yaa HG0.out hgr⟩
    rw [← HRV.out]
    show Ending.returned (.tuple #[.int .i64 i,.int .u64 P,.int .u64 nd,.int .i64 0])=.returned (.tuple #[.int .i64 (i:Nat),.int .u64 (padN (gO bs i) a:Nat),.int .u64 (nd:Nat),.int .i64 0])
    rw [HX.out,HPP.out]
end
section
section
variable {w0 w:World} {T M:Nat} {R:Option Nat} {B D:Nat} {ws:List Nat} {l:List (Nat × Nat)} {E:Nat} {bs:List Blk} {L:Nat→List Nat}
theorem need_bounds (n:Nat):Yat n % 16=0∧48≤Yat n∧n+40≤Yat n∧Yat n≤n+55:=by
 unfold Yat
 split <;> omega
theorem fitM_is {n a i:Nat} (h:fitM bs n a=some i):i<bs.length∧(bs.getD i default).u=false∧Yat n≤(bs.getD i default).s∧padN (bs.getD i default).off a+Yat n≤(bs.getD i default).s:=by
 have:=Yd0 (fitB (Yat n) a) bs bs.length
 unfold fitM at h
 rw [h] at this
 obtain ⟨h1,h2,_⟩:=this
 unfold fitB at h2
 simp only [Bool.and_eq_true,Bool.not_eq_true',decide_eq_true_eq] at h2
 exact ⟨h1,h2.1.1,h2.1.2,by omega⟩
end
end
end Go.Proofs.YtfhiljglfhekdaaGreat
