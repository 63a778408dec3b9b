/-
  Package resize: the contracts of each, of the two functions that are handed to it, and of spare.
  Conditions: as said at each.
-/
import Derived.Test.YtcbdbflgfhbikaaGreatLRse
import Derived.Test.YtcbdbflgfhbikaaGreatLTaa
import Derived.Test.YtcbdbflgfhbikaaGreatLCab
import Derived.Shelf.Abstract
import Derived.Deep.RegionHeld3
namespace Go.Proofs.YtcbdbflgfhbikaaGreat
open Go.RowKit
set_option linter.unusedVariables false
set_option linter.unusedSimpArgs false
set_option maxRecDepth 100000

section
variable {w0 w w':World} {g T m x y:Nat} {a b c:Value} {P:Nat→World→Prop} {Q:World→Prop}
set_option maxHeartbeats 4000000 in
/-- each, of a function with two words of its own -/
theorem each2_any (eg:∀ args w,(callFunc g args).run Tryz.prog w=.ok (.enter g args) w) (hm:x+m=max x y) (hx:x<1000000) (hy:y<1000000) (h0:P 0 w)
  (hP:∀ k wr,k<m→P k wr→Calls Tryz.prog g #[.int .u64 (8*(x+k):Nat),a,b] wr fun e w'=>e=.returned (.tuple #[])∧P (k+1) w') :
  Calls Tryz.prog 31 #[.int .u64 x,.int .u64 y,.func (.func g) #[] #[a,b]] w fun e w'=>e=.returned (.tuple #[])∧P m w':=by
 have HP:=Lib.hid hP
 have H0:=Lib.hid h0
 clear hP h0
 by_cases hxy:x<y
 ·obtain rfl:m=y - x:=by omega
  have e1:IntKind.u64.wrap ((y:Int) - (x:Int))=((y - x:Nat):Int):=by rw [IntKind.wrap_u64];omega
  obtain ⟨m,em⟩:∃ m,y - x=m:=⟨_,rfl⟩
  rw [em] at e1 HP ⊢
  have hm2:x+m<1000000:=by omega
  have hxi:(x:Int)<(y:Int):=by omega
  have hmx:max (x:Int) (y:Int)=(y:Int):=by omega
  clear hm em hx hy hxy
  go_enter Tryz.func31,Tryz.ntmps31
  go_wp2
  go_loopw [12] (fun i wr=>∃ k:Nat,k≤m∧i=.int .u64 (k:Nat)∧P k wr) (fun i _=>m - (intOf i).toNat)
  case atStart=>exact ⟨0,Nat.zero_le _,rfl,H0.out⟩
  case round =>
   obtain ⟨k,hk,rfl,Hk⟩:=hrel
   have HPk:=Lib.hid Hk
   clear Hk
   by_cases hkm:k<m
   ·have hcall:=HP.out k wr hkm HPk.out
    have e2:IntKind.u64.wrap ((x:Int)+(k:Int))=((x+k:Nat):Int):=by rw [IntKind.wrap_u64];omega
    have e3:IntKind.u64.wrap (((x+k:Nat):Int)*8)=((8*(x+k):Nat):Int):=by rw [IntKind.wrap_u64];omega
    have ek1:IntKind.u64.wrap ((k:Int)+1)=((k+1:Nat):Int):=by rw [IntKind.wrap_u64];omega
    have hms:m - (k+1)<m - k:=by omega
    have hki:(k:Int)<(m:Int):=by omega
    obtain ⟨s8,es8⟩:∃ q,8*(x+k)=q:=⟨_,rfl⟩
    obtain ⟨s,es⟩:∃ q,x+k=q:=⟨_,rfl⟩
    rw [es8] at e3 hcall
    rw [es] at e2 e3
    clear es es8 hm2 hxi e1
    go_wp2_with (first|(go_at_fn g;(with_reducible refine hcall.mono ?_);rintro e w3 ⟨rfl,HP3⟩))
    go_roundw
    case rel=>exact ⟨k+1,by omega,by go_num,HP3⟩
    case measure=>simp [intOf];omega
   ·obtain rfl:k=m:=by omega
    have hkk:¬ (k:Int)<(k:Int):=by omega
    go_wp2
    go_end0
    exact ⟨rfl,HPk.out⟩
 ·obtain rfl:m=0:=by omega
  have hxi:¬ (x:Int)<(y:Int):=by omega
  have hmx:max (x:Int) (y:Int)=(x:Int):=by omega
  have e1:IntKind.u64.wrap ((x:Int) - (x:Int))=0:=by rw [Int.sub_self];rfl
  clear hm hx hy hxy
  go_enter Tryz.func31,Tryz.ntmps31
  go_wp2
  go_loopw [12] (fun i wr=>i=.int .u64 0∧wr=w) (fun _ _=>0)
  case atStart=>exact ⟨rfl,rfl⟩
  case round =>
   obtain ⟨rfl,rfl⟩:=hrel
   go_wp2
   go_end0
   exact ⟨rfl,H0.out⟩
set_option maxHeartbeats 4000000 in
/-- each, of a function with three words of its own -/
theorem each3_any (eg:∀ args w,(callFunc g args).run Tryz.prog w=.ok (.enter g args) w) (hm:x+m=max x y) (hx:x<1000000) (hy:y<1000000) (h0:P 0 w)
  (hP:∀ k wr,k<m→P k wr→Calls Tryz.prog g #[.int .u64 (8*(x+k):Nat),a,b,c] wr fun e w'=>e=.returned (.tuple #[])∧P (k+1) w') :
  Calls Tryz.prog 31 #[.int .u64 x,.int .u64 y,.func (.func g) #[] #[a,b,c]] w fun e w'=>e=.returned (.tuple #[])∧P m w':=by
 have HP:=Lib.hid hP
 have H0:=Lib.hid h0
 clear hP h0
 by_cases hxy:x<y
 ·obtain rfl:m=y - x:=by omega
  have e1:IntKind.u64.wrap ((y:Int) - (x:Int))=((y - x:Nat):Int):=by rw [IntKind.wrap_u64];omega
  obtain ⟨m,em⟩:∃ m,y - x=m:=⟨_,rfl⟩
  rw [em] at e1 HP ⊢
  have hm2:x+m<1000000:=by omega
  have hxi:(x:Int)<(y:Int):=by omega
  have hmx:max (x:Int) (y:Int)=(y:Int):=by omega
  clear hm em hx hy hxy
  go_enter Tryz.func31,Tryz.ntmps31
  go_wp2
  go_loopw [12] (fun i wr=>∃ k:Nat,k≤m∧i=.int .u64 (k:Nat)∧P k wr) (fun i _=>m - (intOf i).toNat)
  case atStart=>exact ⟨0,Nat.zero_le _,rfl,H0.out⟩
  case round =>
   obtain ⟨k,hk,rfl,Hk⟩:=hrel
   have HPk:=Lib.hid Hk
   clear Hk
   by_cases hkm:k<m
   ·have hcall:=HP.out k wr hkm HPk.out
    have e2:IntKind.u64.wrap ((x:Int)+(k:Int))=((x+k:Nat):Int):=by rw [IntKind.wrap_u64];omega
    have e3:IntKind.u64.wrap (((x+k:Nat):Int)*8)=((8*(x+k):Nat):Int):=by rw [IntKind.wrap_u64];omega
    have ek1:IntKind.u64.wrap ((k:Int)+1)=((k+1:Nat):Int):=by rw [IntKind.wrap_u64];omega
    have hms:m - (k+1)<m - k:=by omega
    have hki:(k:Int)<(m:Int):=by omega
    obtain ⟨s8,es8⟩:∃ q,8*(x+k)=q:=⟨_,rfl⟩
    obtain ⟨s,es⟩:∃ q,x+k=q:=⟨_,rfl⟩
    rw [es8] at e3 hcall
    rw [es] at e2 e3
    clear es es8 hm2 hxi e1
    go_wp2_with (first|(go_at_fn g;(with_reducible refine hcall.mono ?_);rintro e w3 ⟨rfl,HP3⟩))
    go_roundw
    case rel=>exact ⟨k+1,by omega,by go_num,HP3⟩
    case measure=>simp [intOf];omega
   ·obtain rfl:k=m:=by omega
    have hkk:¬ (k:Int)<(k:Int):=by omega
    go_wp2
    go_end0
    exact ⟨rfl,HPk.out⟩
 ·obtain rfl:m=0:=by omega
  have hxi:¬ (x:Int)<(y:Int):=by omega
  have hmx:max (x:Int) (y:Int)=(x:Int):=by omega
  have e1:IntKind.u64.wrap ((x:Int) - (x:Int))=0:=by rw [Int.sub_self];rfl
  clear hm hx hy hxy
  go_enter Tryz.func31,Tryz.ntmps31
  go_wp2
  go_loopw [12] (fun i wr=>i=.int .u64 0∧wr=w) (fun _ _=>0)
  case atStart=>exact ⟨rfl,rfl⟩
  case round =>
   obtain ⟨rfl,rfl⟩:=hrel
   go_wp2
   go_end0
   exact ⟨rfl,H0.out⟩
/-- what is new is cleared -/
theorem lay0_any {p v tb pb:Nat} (ht:w.cell? ⟨tb,0,none⟩=some (.pointer (some ⟨T,0,none⟩))) (hp:w.cell? ⟨pb,0,none⟩=some (.int .u64 (p:Nat))) (hlt:p+v<1000000)
  (hs:Calls Tryz.prog 16 #[.pointer (some ⟨T,0,none⟩),.int .u64 (p+v:Nat),.int .u64 0] w fun e w'=>e=.returned (.tuple #[])∧Q w') :
  Calls Tryz.prog 33 #[.int .u64 (v:Nat),.pointer (some ⟨tb,0,none⟩),.pointer (some ⟨pb,0,none⟩)] w fun e w'=>e=.returned (.tuple #[])∧Q w':=by
 have e1:IntKind.u64.wrap ((p:Int)+(v:Int))=((p+v:Nat):Int):=by rw [IntKind.wrap_u64];omega
 obtain ⟨s,es⟩:∃ s,p+v=s:=⟨_,rfl⟩
 rw [es] at hs e1
 clear es
 go_enter Tryz.func33,Tryz.ntmps33
 go_wp2_with (first|(go_at_call 16;(with_reducible refine hs.mono ?_);rintro e w1 ⟨rfl,hq⟩))
 go_end0
 exact ⟨rfl,hq⟩
/-- a word is moved -/
theorem lay1_any {p q v z tb pb qb:Nat} (hcell:∀ {V:World},w.grownBy V none→V.cell? ⟨tb,0,none⟩=some (.pointer (some ⟨T,0,none⟩))∧V.cell? ⟨pb,0,none⟩=some (.int .u64 (p:Nat))∧V.cell? ⟨qb,0,none⟩=some (.int .u64 (q:Nat))) (hlt:p+v<1000000∧q+v<1000000)
  (hl:∀ w1,w.grownBy w1 none→Calls Tryz.prog 17 #[.pointer (some ⟨T,0,none⟩),.int .u64 (p+v:Nat)] w1 fun e w'=>e=.returned (.int .u64 (z:Nat))∧w1.grownBy w' none)
  (hs:∀ w1,w.grownBy w1 none→Calls Tryz.prog 16 #[.pointer (some ⟨T,0,none⟩),.int .u64 (q+v:Nat),.int .u64 (z:Nat)] w1 fun e w'=>e=.returned (.tuple #[])∧Q w'∧w'.cell? ⟨tb,0,none⟩=some (.pointer (some ⟨T,0,none⟩))∧w'.cell? ⟨pb,0,none⟩=some (.int .u64 (p:Nat))∧w'.cell? ⟨qb,0,none⟩=some (.int .u64 (q:Nat))) :
  Calls Tryz.prog 67 #[.int .u64 (v:Nat),.pointer (some ⟨tb,0,none⟩),.pointer (some ⟨qb,0,none⟩),.pointer (some ⟨pb,0,none⟩)] w fun e w'=>e=.returned (.tuple #[])∧Q w':=by
 have e1:IntKind.u64.wrap ((p:Int)+(v:Int))=((p+v:Nat):Int):=by rw [IntKind.wrap_u64];omega
 have e2:IntKind.u64.wrap ((q:Int)+(v:Int))=((q+v:Nat):Int):=by rw [IntKind.wrap_u64];omega
 obtain ⟨s,es⟩:∃ s,p+v=s:=⟨_,rfl⟩
 obtain ⟨r,er⟩:∃ r,q+v=r:=⟨_,rfl⟩
 rw [es] at hl e1
 rw [er] at hs e2
 have HL:=Lib.hid hl
 have HS:=Lib.hid hs
 clear es er hl hs hlt
 go_enter Tryz.func67,Tryz.ntmps67
 have HG:w.grownBy w.drew none:=grown_drew (grown_refl _ _)
 obtain ⟨t0,t1,t2⟩:=hcell HG
 go_region_held3 (fun w'=>w'.cell? ⟨tb,0,none⟩=some (.pointer (some ⟨T,0,none⟩))∧w'.cell? ⟨pb,0,none⟩=some (.int .u64 (p:Nat))∧w'.cell? ⟨qb,0,none⟩=some (.int .u64 (q:Nat))) (first|exact hcell HG|assumption) (first
  | (go_at_call 17;(with_reducible refine (HL.out _ HG).mono ?_);rintro e w1 ⟨rfl,hg1⟩;replace HG:=grown_trans HG hg1;obtain ⟨t0,t1,t2⟩:=hcell HG)
  | (go_at_call 16;(with_reducible refine (HS.out _ HG).mono ?_);rintro e w2 ⟨rfl,hq,HC⟩))
 go_end0
 exact ⟨rfl,hq⟩
end
section
variable {w0 w w':World} {T M:Nat} {R:Option Nat} {B D:Nat} {ws:List Nat} {l:List (Nat × Nat)}
/-- how many bytes are free where the heap ends -/
theorem rzspare_any (h:Thinks w T M R B D ws l) {off v:Nat} (ho:8≤off) (hlt:off<1000000) (hv:txSee ws l (off - 8)=v) :
  Calls Tryz.prog 52 #[.pointer (some ⟨T,0,none⟩),.int .u64 (off:Nat)] w fun e w'=>e=.returned (.int .u64 (if tU v then 0 else tS v:Nat))∧w.grownBy w' none:=by
 have hld:=txload_any h (off - 8) (by omega)
 have hlt2:=txSee_lt h.seg.words h.ok (off - 8)
 rw [hv] at hld hlt2
 have e1:IntKind.u64.wrap ((off:Int) - 8)=((off - 8:Nat):Int):=by rw [IntKind.wrap_u64];omega
 obtain ⟨o,eo⟩:∃ o,off - 8=o:=⟨_,rfl⟩
 rw [eo] at hld e1
 have hun:=fun w1=>tunpack_any v hlt2 w1
 obtain ⟨s,hs⟩:∃ s,tS v=s:=⟨_,rfl⟩
 obtain ⟨u,hu⟩:∃ u,tU v=u:=⟨_,rfl⟩
 rw [hs,hu] at hun ⊢
 clear hv eo h hlt2 hs hu
 cases u with
 | true =>
  go_enter Tryz.func52,Tryz.ntmps52
  go_wp2_with (first|(go_at_call 17;(with_reducible refine hld.mono ?_);rintro e w1 ⟨rfl,hg1⟩)|(go_at_call 91;(with_reducible refine (hun _).mono ?_);rintro e w2 ⟨rfl,hg2⟩;have G2:=grown_trans hg1 hg2))
  go_ret
  exact ⟨rfl,grown_trans G2 (World.grownBy_alloc _ _ _)⟩
 | false =>
  go_enter Tryz.func52,Tryz.ntmps52
  go_wp2_with (first|(go_at_call 17;(with_reducible refine hld.mono ?_);rintro e w1 ⟨rfl,hg1⟩)|(go_at_call 91;(with_reducible refine (hun _).mono ?_);rintro e w2 ⟨rfl,hg2⟩;have G2:=grown_trans hg1 hg2))
  go_ret
  exact ⟨rfl,grown_trans G2 (World.grownBy_alloc _ _ _)⟩
end
end Go.Proofs.YtcbdbflgfhbikaaGreat
