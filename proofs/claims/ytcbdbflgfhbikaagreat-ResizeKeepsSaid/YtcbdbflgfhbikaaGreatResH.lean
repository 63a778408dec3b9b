/-
  Package resize: words of a used block's payload that are cleared, or moved to another one's.
  Conditions: as said at each.
-/
import Derived.Test.YtcbdbflgfhbikaaGreatResG
import Derived.Test.YtcbdbflgfhbikaaGreatLRef
namespace Go.Proofs.YtcbdbflgfhbikaaGreat
open Go.RowKit
set_option linter.unusedVariables false
set_option linter.unusedSimpArgs false
set_option maxRecDepth 100000

section
variable {w0 w w':World} {T:Nat} {R R':Option Nat} {ws:List Nat} {E p q c d m v tb pb qb:Nat} {bs:List Blk} {b:Blk} {L:Nat→List Nat} {f:Nat→Nat}
/-- a number in a box, that no Tx has -/
def Box (w:World) (R:Option Nat) (pb v:Nat):Prop:=KW w R 0 (.slice (some ⟨pb,0,none⟩) 1 1) [v]
theorem Box.cell (h:Box w R pb v):w.cell? ⟨pb,0,none⟩=some (.int .u64 v):=OwnW.at_ (ws:=[v]) h.1 0 (Nat.succ_pos 0)
theorem Box.step (h:Box w R pb v) (K:Keep w R w' R'):Box w' R' pb v:=K.row h
theorem Box.of (hb:w.heap[pb]?=some (.cells #[.int .u64 v] 23 (0,0))) (hR:∀ g,R=some g→g≠pb):Box w R pb v :=
 ⟨box_own hb,fun g e1 e2=>by injection e1 with e1;exact hR g e2 e1.symm⟩
theorem HF.ltR (h:HF w0 w T R ws E bs L f):∀ g,R=some g→g<w.heap.size:=by
 obtain ⟨h0,M,B,D,l,h1,h2⟩:=h
 exact fun g e=>h1.tx.ltR e
theorem zero_any (h:HF w0 w T R ws E bs L f) (hb:b∈bs) (hu:b.u=true) (hp:p=b.off+32) (hd:c+m=max c d) (hfit:p+8*d≤b.off+b.s - 8) (hc:c<1000000)
  (kt:w.heap[tb]?=some (.cells #[.pointer (some ⟨T,0,none⟩)] 25 (0,0))) (kp:Box w R pb p) :
  Calls Tryz.prog 31 #[.int .u64 (c:Nat),.int .u64 (d:Nat),.func (.func 33) #[] #[.pointer (some ⟨tb,0,none⟩),.pointer (some ⟨pb,0,none⟩)]] w fun e w'=>e=.returned (.tuple #[])∧∃ R' f',HF w0 w' T R' ws E bs L f'∧(∀ x,f' x=if p+8*c≤x∧x<p+8*(c+m)∧x % 8=0 then 0 else f x)∧Keep w R w' R':=by
 have hbi:=h.sound.told.is b hb
 have hhi:=hbi.hi
 have hlow:=h.sound.low
 have hal:=hbi.al
 refine each2_any (m:=m) (P:=fun k wr=>∃ Rk fk,HF w0 wr T Rk ws E bs L fk∧(∀ x,fk x=if p+8*c≤x∧x<p+8*(c+k)∧x % 8=0 then 0 else f x)∧Keep w R wr Rk) (enters_of Tryz.func33 (by kernel_rfl) rfl) hd hc (by omega) ⟨R,f,h,fun x=>(if_neg (by omega)).symm,Keep.of_grown (grown_refl _ _)⟩ ?_
 rintro k wr hk ⟨Rk,fk,hF,hf,K⟩
 have hkd:c+k<d:=by omega
 have hst:=hf_put hF hb hu (x:=p+8*(c+k)) (v:=0) (by omega) (by omega) (by omega) (by decide)
 refine lay0_any (cell_of_one (K.far kt (by decide) (by decide))) (kp.step K).cell (by omega) (hst.mono ?_)
 rintro e w2 ⟨rfl,R2,h2,K2⟩
 refine ⟨rfl,R2,_,h2,fun x=>?_,K.trans K2⟩
 unfold putF
 rw [hf]
 by_cases e1:x=p+8*(c+k)
 ·rw [if_pos e1,if_pos (by omega)]
 ·rw [if_neg e1]
  by_cases e2:p+8*c≤x∧x<p+8*(c+k)∧x % 8=0
  ·rw [if_pos e2,if_pos (by omega)]
  ·rw [if_neg e2,if_neg (by omega)]
theorem moved_any (h:HF w0 w T R ws E bs L f) (hb:b∈bs) (hu:b.u=true) (hq:q=b.off+32) (hfit:q+8*m≤b.off+b.s - 8) (hp:p % 8=0) (hlt:p+8*m≤4800) (hap:p+8*m≤q∨q+8*m≤p)
  (kt:w.heap[tb]?=some (.cells #[.pointer (some ⟨T,0,none⟩)] 25 (0,0))) (kp:Box w R pb p) (kq:Box w R qb q) :
  Calls Tryz.prog 31 #[.int .u64 0,.int .u64 (m:Nat),.func (.func 67) #[] #[.pointer (some ⟨tb,0,none⟩),.pointer (some ⟨qb,0,none⟩),.pointer (some ⟨pb,0,none⟩)]] w fun e w'=>e=.returned (.tuple #[])∧∃ R' f',HF w0 w' T R' ws E bs L f'∧(∀ x,f' x=if q≤x∧x<q+8*m∧x % 8=0 then f (p+(x - q)) else f x)∧Keep w R w' R':=by
 have hbi:=h.sound.told.is b hb
 have hhi:=hbi.hi
 have hlow:=h.sound.low
 have hal:=hbi.al
 refine each3_any (x:=0) (m:=m) (P:=fun k wr=>∃ Rk fk,HF w0 wr T Rk ws E bs L fk∧(∀ x,fk x=if q≤x∧x<q+8*k∧x % 8=0 then f (p+(x - q)) else f x)∧Keep w R wr Rk) (enters_of Tryz.func67 (by kernel_rfl) rfl) (by omega) (by omega) (by omega) ⟨R,f,h,fun x=>(if_neg (by omega)).symm,Keep.of_grown (grown_refl _ _)⟩ ?_
 rintro k wr hk ⟨Rk,fk,hF,hf,K⟩
 rw [Nat.zero_add]
 have hz:fk (p+8*k)=f (p+8*k):=by rw [hf,if_neg (by omega)]
 have kt2:=K.far kt (by decide) (by decide)
 have kp2:=kp.step K
 have kq2:=kq.step K
 have hcell:∀ {V:World} {RV:Option Nat},Keep wr Rk V RV→V.cell? ⟨tb,0,none⟩=some (.pointer (some ⟨T,0,none⟩))∧V.cell? ⟨pb,0,none⟩=some (.int .u64 (p:Nat))∧V.cell? ⟨qb,0,none⟩=some (.int .u64 (q:Nat)):=fun KV=>⟨cell_of_one (KV.far kt2 (by decide) (by decide)),(kp2.step KV).cell,(kq2.step KV).cell⟩
 refine lay1_any (fun hg=>hcell (Keep.of_grown hg)) ⟨by omega,by omega⟩ (z:=f (p+8*k)) (fun w1 hg1=>?_) fun w1 hg1=>?_
 ·have hld:=hf_load (hF.later hg1) (x:=p+8*k) (by omega)
  rw [hz] at hld
  exact hld
 have hst:=hf_put (hF.later hg1) hb hu (x:=q+8*k) (v:=f (p+8*k)) (by omega) (by omega) (by omega) (h.lt _)
 refine hst.mono ?_
 rintro e w2 ⟨rfl,R2,h2,K2⟩
 refine ⟨rfl,?_,hcell ((Keep.of_grown hg1).trans K2)⟩
 refine ⟨R2,_,h2,fun x=>?_,K.trans ((Keep.of_grown hg1).trans K2)⟩
 unfold putF
 rw [hf]
 by_cases e1:x=q+8*k
 ·rw [if_pos e1,if_pos (by omega),show p+(x - q)=p+8*k by omega]
 ·rw [if_neg e1]
  by_cases e2:q≤x∧x<q+8*k∧x % 8=0
  ·rw [if_pos e2,if_pos (by omega)]
  ·rw [if_neg e2,if_neg (by omega)]
end
end Go.Proofs.YtcbdbflgfhbikaaGreat
