/-
  Texts of one layer, one behind the other: memory, contracts of the functions, and what follows of them.
  Conditions: as each theorem says.
-/
import Derived.Test.YtfhiljglfhekdaaGreatLPha
import Derived.Sort.Grow
import Derived.Deep.RegionHeld3
import Derived.Test.YtfhiljglfhekdaaGreatLSea
import Derived.StillTailTactics
import Derived.BigQuiet
import Derived.Test.YtfhiljglfhekdaaGreatLTaa
import Derived.Deep.QuietTactic
import Derived.Laws.StructEq
import Derived.Deep.AppendLies
import Derived.Laws.AppendOwnNone
import Derived.Test.YtfhiljglfhekdaaGreatLTxa
import Derived.RangeFuncCalls
import Derived.TacticsInMore
import Derived.OrdersIn
import Derived.Deep.LoopGhost
import Derived.Test.YtfhiljglfhekdaaGreatLWoa
import Derived.Test.YtfhiljglfhekdaaGreatLHea
import Derived.Shelf.RegionOpen
import Derived.RangeFuncBox
import Derived.Test.YtfhiljglfhekdaaGreatLCla
import Derived.Test.YtfhiljglfhekdaaGreatLTra
import Derived.Maps.OwnIn
import Derived.RangeFuncNested
import Derived.RangeFuncBound
import Derived.RangeFuncLeaves
import Derived.Shelf.Abstract
import Derived.OwnWalkIn
import Derived.LoopNIn
import Derived.LoopIn
set_option linter.unusedVariables false
set_option linter.unusedSimpArgs false
set_option maxRecDepth 100000
namespace Go.Proofs.YtfhiljglfhekdaaGreat
open Go.RowKit
section
theorem may_bounds {s:Nat} {u:Bool} {o:Int} (h:mayP s u o):s % 16=0∧48≤s∧s≤1048576∧0≤o∧o≤8∧(u=false→o=0):=by
 unfold mayP at h
 refine ⟨h.1,h.2.1,h.2.2.1,h.2.2.2.1,h.2.2.2.2.1,fun e=>?_⟩
 rcases h.2.2.2.2.2 with h1|h1
 ·rw [e] at h1;cases h1
 ·exact h1
section
variable {f g:Nat→Nat} {E:Nat} {b:Blk}
end
section
variable {f g:Nat→Nat} {E off e:Nat} {b:Blk} {bs cs:List Blk}
end
def usedB (bs:List Blk):List Nat:=(bs.filter fun b=>b.u).map Blk.off
theorem usedB_append (bs cs:List Blk):usedB (bs++cs)=usedB bs++usedB cs:=by simp [usedB]
section
variable {f g:Nat→Nat} {E off e:Nat} {b:Blk} {bs cs:List Blk}
end
def Mg:List Blk→Prop
 | []=>True
 | [_]=>True
 | b::c::r=>(b.u=true∨c.u=true)∧Mg (c::r)
theorem mg_cons {b c:Blk} {r:List Blk}:Mg (b::c::r)↔(b.u=true∨c.u=true)∧Mg (c::r):=Iff.rfl
theorem Mg.tail {b:Blk} {r:List Blk} (h:Mg (b::r)):Mg r:=by
 cases r with
 | nil=>trivial
 | cons c r=>exact h.2
theorem Yc7:∀ {bs:List Blk} {cs:List Blk},Mg (bs++cs)↔Mg bs∧Mg cs∧(∀ b c,bs.getLast?=some b→cs.head?=some c→b.u=true∨c.u=true)
 | [],cs=>by simp [Mg]
 | [b],[]=>by simp [Mg]
 | [b],c::r=>by simp [Mg,and_comm]
 | b::c::r,cs=>by
  have ih:=Yc7 (bs:=c::r) (cs:=cs)
  rw [List.cons_append,List.cons_append,mg_cons,mg_cons,← List.cons_append,ih,List.getLast?_cons_cons]
  constructor
  ·rintro ⟨h1,h2,h3,h4⟩;exact ⟨⟨h1,h2⟩,h3,h4⟩
  ·rintro ⟨⟨h1,h2⟩,h3,h4⟩;exact ⟨h1,h2,h3,h4⟩
section
variable {f g:Nat→Nat} {E:Nat} {bs:List Blk} {L:Nat→List Nat} {b:Blk}
end
end
section
def Ybr (a:Nat):Prop:=a=16∨a=32∨a=64∨a=128∨a=256∨a=512∨a=1024∨a=2048∨a=4096
instance (a:Nat):Decidable (Ybr a):=by unfold Ybr;infer_instance
theorem Ybr.le {a:Nat} (h:Ybr a):16≤a∧a≤4096∧a % 16=0:=by unfold Ybr at h;omega
def padN (off a:Nat):Nat:=if (off+32) % a=0 then 0 else if 48≤a - (off+32) % a then a - (off+32) % a else 2*a - (off+32) % a
def padIs (off a n:Nat):Prop:=(off+32+n) % a=0∧(n=0∨48≤n)
theorem padN_is {off a:Nat} (ha:Ybr a) (ho:off % 16=0):padIs off a (padN off a):=by
 unfold padIs padN
 rcases ha with rfl|rfl|rfl|rfl|rfl|rfl|rfl|rfl|rfl <;> split <;> first|omega|(split <;> omega)
theorem padN_least {off a n:Nat} (ha:Ybr a) (ho:off % 16=0) (hn:n % 16=0) (h:padIs off a n):padN off a≤n:=by
 unfold padIs at h
 unfold padN
 rcases ha with rfl|rfl|rfl|rfl|rfl|rfl|rfl|rfl|rfl <;> split <;> first|omega|(split <;> omega)
theorem padN_al {off a:Nat} (ha:Ybr a) (ho:off % 16=0):padN off a % 16=0∧padN off a<8192:=by
 unfold padN
 rcases ha with rfl|rfl|rfl|rfl|rfl|rfl|rfl|rfl|rfl <;> split <;> first|omega|(split <;> omega)
def fitB (need a:Nat) (b:Blk):Bool := !b.u && decide (need≤b.s) && decide (padN b.off a≤b.s - need)
def Yc0 (p:Blk→Bool) (bs:List Blk):Nat→Option Nat
 | 0=>none
 | k+1 =>
  match Yc0 p bs k with
  | none=>if p (bs.getD k default)=true then some k else none
  | some i=>if p (bs.getD k default)=true∧(bs.getD k default).s<(bs.getD i default).s then some k else some i
def BestIs (p:Blk→Bool) (bs:List Blk) (k:Nat):Option Nat→Prop
 | none=>∀ j,j<k→p (bs.getD j default)=false
 | some i=>i<k∧p (bs.getD i default)=true∧∀ j,j<k→p (bs.getD j default)=true→(bs.getD i default).s<(bs.getD j default).s∨((bs.getD i default).s=(bs.getD j default).s∧i≤j)
theorem Yd0 (p:Blk→Bool) (bs:List Blk):∀ k,BestIs p bs k (Yc0 p bs k)
 | 0=>fun j hj=>absurd hj (Nat.not_lt_zero _)
 | k+1=>by
  have ih:=Yd0 p bs k
  unfold Yc0
  cases e:Yc0 p bs k with
  | none =>
   rw [e] at ih
   simp only
   by_cases hp:p (bs.getD k default)=true
   ·rw [if_pos hp]
    refine ⟨Nat.lt_succ_self k,hp,fun j hj hpj=>?_⟩
    rcases Nat.lt_succ_iff_lt_or_eq.1 hj with h|rfl
    ·rw [ih j h] at hpj;cases hpj
    ·exact .inr ⟨rfl,Nat.le_refl _⟩
   ·rw [if_neg hp]
    intro j hj
    rcases Nat.lt_succ_iff_lt_or_eq.1 hj with h|rfl
    ·exact ih j h
    ·simpa using hp
  | some i =>
   rw [e] at ih
   obtain ⟨h1,h2,h3⟩:=ih
   simp only
   by_cases hp:p (bs.getD k default)=true∧(bs.getD k default).s<(bs.getD i default).s
   ·rw [if_pos hp]
    refine ⟨Nat.lt_succ_self k,hp.1,fun j hj hpj=>?_⟩
    rcases Nat.lt_succ_iff_lt_or_eq.1 hj with h|rfl
    ·rcases h3 j h hpj with h4|h4
     ·exact .inl (by omega)
     ·exact .inl (by omega)
    ·exact .inr ⟨rfl,Nat.le_refl _⟩
   ·rw [if_neg hp]
    refine ⟨by omega,h2,fun j hj hpj=>?_⟩
    rcases Nat.lt_succ_iff_lt_or_eq.1 hj with h|rfl
    ·exact h3 j h hpj
    ·have:¬ (bs.getD j default).s<(bs.getD i default).s:=fun h=>hp ⟨hpj,h⟩
     omega
def fitM (bs:List Blk) (n a:Nat):Option Nat:=Yc0 (fitB (Yat n) a) bs bs.length
def Yax (bs:List Blk) (n a:Nat):Nat:=if ¬ Ybr a then 1 else if 18446744073709551560<n then 2 else if fitM bs n a=none then 3 else 0
def Ya4 (off s:Nat):Blk:=⟨off,s,false,0,0⟩
def cutB (b:Blk) (pad need owner n:Nat):List Blk :=
 (if pad=0 then [] else [Ya4 b.off pad])++(⟨b.off+pad,if b.s - pad - need<48 then b.s - pad else need,true,owner,n⟩::if b.s - pad - need<48 then [] else [Ya4 (b.off+pad+need) (b.s - pad - need)])
def takeB (bs:List Blk) (i pad need owner n:Nat):List Blk:=bs.take i++cutB (bs.getD i default) pad need owner n++bs.drop (i+1)
def Ydl (L:Nat→List Nat) (owner off:Nat):Nat→List Nat:=if owner=0 then L else setL L (owner - 1) (off::L (owner - 1))
end
section
theorem padN_not {off a n:Nat} (ha:Ybr a) (ho:off % 16=0) (hn:n % 16=0) (h:n<padN off a):¬ padIs off a n:=fun e=>by
 have:=padN_least ha ho hn e
 omega
set_option maxHeartbeats 4000000 in
theorem rpad_any {off a:Nat} (ha:Ybr a) (ho:off % 16=0) (hlt:off<1000000000) (w:World) :
  Calls Tryz.prog 135 #[.int .u64 off,.int .u64 a] w fun e w'=>e=.returned (.int .u64 (padN off a:Nat))∧w=w':=by
 have hal:=ha.le
 have hp:=padN_is ha ho
 have hpl:=padN_al ha ho
 have hno:=fun n=>padN_not (n:=n) ha ho
 obtain ⟨P,hP⟩:∃ P,padN off a=P:=⟨_,rfl⟩
 rw [hP] at hp hpl hno ⊢
 have a0:¬ (a:Int)=0:=by omega
 have e32:IntKind.u64.wrap ((off:Int)+32)=((off+32:Nat):Int):=by rw [IntKind.wrap_u64];omega
 obtain ⟨o32,eo⟩:∃ q,off+32=q:=⟨_,rfl⟩
 unfold padIs at hp hno
 rw [eo] at e32 hp
 simp only [eo] at hno
 have ho32:o32<1000000100:=by omega
 have HNO:=Lib.hid hno
 have HP:=Lib.hid hp
 clear eo ha hP hno hp
 go_enter Tryz.func135,Tryz.ntmps135
 go_wp2
 go_loopw [5] (fun v wr=>∃ n:Nat,n % 16=0∧n≤P∧v=.int .u64 n∧wr=w) (fun v _=>P - (intOf v).toNat)
 case atStart=>exact ⟨0,rfl,Nat.zero_le _,rfl,rfl⟩
 case round =>
  obtain ⟨n,hn16,hnP,rfl,rfl⟩:=hrel
  obtain ⟨m,em⟩:∃ m,o32+n=m:=⟨_,rfl⟩
  have e2:IntKind.u64.wrap ((o32:Int)+(n:Int))=(m:Nat):=by rw [IntKind.wrap_u64];omega
  obtain ⟨r,er⟩:∃ r,m % a=r:=⟨_,rfl⟩
  have e3:(m:Int).tmod (a:Int)=(r:Nat):=by rw [Int.tmod_eq_emod_of_nonneg (by omega)];omega
  have e4:(m:Int) % (a:Int)=(r:Nat):=by omega
  rcases Nat.lt_or_ge n P with hlt1|hge
  ·have hnot:=HNO.out n hn16 hlt1
   rw [em,er] at hnot
   have e16:IntKind.u64.wrap ((n:Int)+16)=((n+16:Nat):Int):=by rw [IntKind.wrap_u64];omega
   obtain ⟨n16,en⟩:∃ q,n+16=q:=⟨_,rfl⟩
   rw [en] at e16
   have h16P:n16≤P:=by omega
   have hn16':n16 % 16=0:=by omega
   have hms:P - n16<P - n:=by omega
   by_cases hr:r=0
   ·subst hr
    have hb:0<n∧n<48:=by
     rcases Nat.eq_zero_or_pos n with h|h
     ·exact absurd ⟨rfl,.inl h⟩ hnot
     ·refine ⟨h,?_⟩
      rcases Nat.lt_or_ge n 48 with h2|h2
      ·exact h2
      ·exact absurd ⟨rfl,.inr h2⟩ hnot
    have b1:(0:Int)<(n:Int):=by omega
    have b2:(n:Int)<48:=by omega
    clear hnot em er en
    go_wp2
    go_roundw
    case rel=>exact ⟨n16,hn16',h16P,rfl,trivial⟩
    case measure=>simp [intOf];omega
   ·have hr':¬ (r:Int)=0:=by omega
    have hr2:((r:Int) != 0)=true:=by simp;omega
    clear hnot em er en
    go_wp2
    go_roundw
    case rel=>exact ⟨n16,hn16',h16P,rfl,trivial⟩
    case measure=>simp [intOf];omega
  ·obtain rfl:n=P:=by omega
   have hp:=HP.out
   rw [em,er] at hp
   obtain ⟨hr0,hn48⟩:=hp
   subst hr0
   simp only [show ((0:Nat):Int)=0 from rfl] at e3 e4
   clear er
   rcases hn48 with rfl|h48
   ·obtain rfl:o32=m:=by omega
    simp only [show ((0:Nat):Int)=0 from rfl] at e2 ⊢
    go_wp2
    go_ret
    exact ⟨rfl,rfl⟩
   ·clear em
    have b1:(0:Int)<(n:Int):=by omega
    have b2:¬ (n:Int)<48:=by omega
    go_wp2
    go_ret
    exact ⟨rfl,rfl⟩
theorem Yeh {a:Nat}:Ybr a↔(∃ k,k<64∧a=2 ^ k)∧16≤a∧a≤4096:=by
 constructor
 ·rintro (rfl|rfl|rfl|rfl|rfl|rfl|rfl|rfl|rfl)
  ·exact ⟨⟨4,by decide,rfl⟩,by decide,by decide⟩
  ·exact ⟨⟨5,by decide,rfl⟩,by decide,by decide⟩
  ·exact ⟨⟨6,by decide,rfl⟩,by decide,by decide⟩
  ·exact ⟨⟨7,by decide,rfl⟩,by decide,by decide⟩
  ·exact ⟨⟨8,by decide,rfl⟩,by decide,by decide⟩
  ·exact ⟨⟨9,by decide,rfl⟩,by decide,by decide⟩
  ·exact ⟨⟨10,by decide,rfl⟩,by decide,by decide⟩
  ·exact ⟨⟨11,by decide,rfl⟩,by decide,by decide⟩
  ·exact ⟨⟨12,by decide,rfl⟩,by decide,by decide⟩
 ·rintro ⟨⟨k,_,e⟩,h1,h2⟩
  have hk:k<13:=by
   rcases Nat.lt_or_ge k 13 with h|h
   ·exact h
   ·have:=Nat.pow_le_pow_right (n:=2) (by decide) h
    omega
  unfold Ybr
  rcases (show k=0∨k=1∨k=2∨k=3∨k=4∨k=5∨k=6∨k=7∨k=8∨k=9∨k=10∨k=11∨k=12 by omega) with rfl|rfl|rfl|rfl|rfl|rfl|rfl|rfl|rfl|rfl|rfl|rfl|rfl <;> omega
theorem ralign_any {a:Nat} (ha:a<18446744073709551616) (w:World) :
  Calls Tryz.prog 134 #[.int .u64 a] w fun e w'=>e=.returned (.bool (decide (Ybr a)))∧w=w':=by
 by_cases hp:∃ k,k<64∧a=2 ^ k
 ·obtain ⟨k,hk,ek⟩:=hp
  have hb:=Ydd k hk
  rw [← ek] at hb
  have hup:=rup_core0 a a hb.1 ha ha (Nat.mod_self a) (power_yes k a hk ek)
  have hi:decide (Ybr a)=decide (16≤a∧a≤4096):=by
   apply Bool.eq_iff_iff.2
   rw [decide_eq_true_iff,decide_eq_true_iff,Yeh]
   exact ⟨fun h=>h.2,fun h=>⟨⟨k,hk,ek⟩,h⟩⟩
  rw [hi]
  clear hi ek hb
  by_cases h1:16≤a
  ·have h1':(16:Int)≤(a:Int):=by omega
   by_cases h2:a≤4096
   ·have h2':(a:Int)≤4096:=by omega
    rw [decide_eq_true ⟨h1,h2⟩]
    go_enter Tryz.func134,Tryz.ntmps134
    go_wp2_with (go_at_call 43;refine (hup _).mono ?_;rintro e w1 ⟨rfl,rfl⟩)
    go_ret
    exact ⟨rfl,rfl⟩
   ·have h2':¬ (a:Int)≤4096:=by omega
    rw [decide_eq_false fun h=>h2 h.2]
    have h2d:=decide_eq_false h2'
    go_enter Tryz.func134,Tryz.ntmps134
    go_wp2_with (go_at_call 43;refine (hup _).mono ?_;rintro e w1 ⟨rfl,rfl⟩)
    go_ret
    exact ⟨rfl,rfl⟩
  ·have h1':¬ (16:Int)≤(a:Int):=by omega
   rw [decide_eq_false fun h=>h1 h.1]
   go_enter Tryz.func134,Tryz.ntmps134
   go_wp2_with (go_at_call 43;refine (hup _).mono ?_;rintro e w1 ⟨rfl,rfl⟩)
   go_ret
   exact ⟨rfl,rfl⟩
 ·have hno:∀ k,a≠2 ^ k:=fun k e=>by
   rcases Nat.lt_or_ge k 64 with h|h
   ·exact hp ⟨k,h,e⟩
   ·have:=Nat.pow_le_pow_right (n:=2) (by decide) h
    omega
  have hup:=rup_not a a ha hno
  rw [decide_eq_false fun h=>hp (Yeh.1 h).1]
  clear hno hp
  go_enter Tryz.func134,Tryz.ntmps134
  go_wp2_with (go_at_call 43;refine (hup _).mono ?_;rintro e w1 ⟨rfl,rfl⟩)
  go_ret
  exact ⟨rfl,rfl⟩
theorem rfree_any (off s:Nat) (w:World) :
  Calls Tryz.prog 106 #[.int .u64 off,.int .u64 s] w fun e w'=>e=.returned (.agg (Ya4 off s).row.toArray)∧w.grownBy w' none:=by
 go_enter Tryz.func106,Tryz.ntmps106
 go_wp2
 refine bodyPost_ret (v:=.agg #[.int .u64 off,.int .u64 s,.bool false,.int .i64 0,.int .u64 0]) (by simp [results,Tryz.results106,go_sem]) rfl ?_
 exact ⟨rfl,Yaa (World.grownBy_alloc _ _ _) (World.grownBy_alloc _ _ _)⟩
def Ya1 (E:Nat) (b:Value) (vs:Nat→Value):Value:=.agg #[.int .u64 (E:Nat),b,vs 0,vs 1,vs 2,vs 3,vs 4,vs 5,vs 6,vs 7]
structure HvIs (w:World) (base:Nat) (v:Value) (E:Nat) (bs:List Blk) (L:Nat→List Nat):Prop where
 is:∃ b vs,v=Ya1 E b vs∧OwnB w base 81 b bs∧∀ c,c<8→OwnW w base (vs c) (L c)
theorem HvIs.later {w w':World} {base:Nat} {v:Value} {E:Nat} {bs:List Blk} {L:Nat→List Nat} (h:HvIs w base v E bs L) (hg:w.grownBy w' none):HvIs w' base v E bs L:=by
 obtain ⟨b,vs,h1,h2,h3⟩:=h.is
 exact ⟨b,vs,h1,h2.later hg,fun c hc=>(h3 c hc).later hg⟩
theorem ownB_one {V:World} {base b:Nat} (hb:V.heap.size=b) (h:base≤b) (k:Blk):OwnB (V.alloc (.cells k.row.toArray 81)) base 81 (.slice (some ⟨b,0,none⟩) 1 1) [k]:=by
 subst hb
 have:=World.ownsRow_lit (base:=base) (e:=81) (size:=5) V k.row.toArray 1 h (by decide) rfl
 unfold OwnB
 rw [show Yca [k]=k.row.toArray.toList by simp [Yca]]
 exact this
theorem rnew10_any (E:Nat) (hE:3776≤E) (h64:E<18446744073709551616) (w:World) :
  Calls Tryz.prog 47 #[.int .u64 E] w fun e w'=>∃ v,e=.returned v∧HvIs w' w.heap.size v E [Ya4 3776 (E - 3776)] (fun _=>[])∧w.grownBy w' none:=by
 obtain ⟨s,es⟩:∃ s,E - 3776=s:=⟨_,rfl⟩
 have e1:IntKind.u64.wrap ((E:Int) - 3776)=(s:Nat):=by rw [IntKind.wrap_u64];omega
 rw [es]
 clear es
 go_enter Tryz.func47,Tryz.ntmps47
 go_wp2
 refine bodyPost_ret (v:=Ya1 E (.slice (some ⟨w.heap.size+1+1,0,none⟩) 1 1) (fun _=>.slice none 0 0)) (by simp [results,Tryz.results47,go_sem,Ya1]) rfl ?_
 refine ⟨_,rfl,⟨_,_,rfl,?_,fun c _=>World.ownsRow_nil _ _ _ _⟩,Yaa (World.grownBy_alloc _ _ _) (Yaa (World.grownBy_alloc _ _ _) (World.grownBy_alloc _ _ _))⟩
 exact ownB_one (by simp) (by omega) (Ya4 3776 s)
end
section
section
variable {w:World} {T M:Nat} {R:Option Nat} {B D:Nat} {ws:List Nat} {l:List (Nat × Nat)} {ls:List Nat} {bs:List Blk} {E:Nat}
theorem getB_mem {i:Nat} (hi:i<bs.length):bs.getD i default∈bs:=by
 rw [List.getD_eq_getElem?_getD,List.getElem?_eq_getElem hi]
 exact List.getElem_mem _
end
end
section
section
variable {f f0 f1 f2 f3 f4 f5 g:Nat→Nat} {E:Nat} {bs A C:List Blk} {b:Blk} {L:Nat→List Nat}
theorem may_false {s:Nat} (h1:s % 16=0) (h2:48≤s) (h3:s≤1048576):mayP s false 0:=⟨h1,h2,h3,by decide,by decide,.inr rfl⟩
theorem may_true {s owner:Nat} (h1:s % 16=0) (h2:48≤s) (h3:s≤1048576) (h4:owner≤8):mayP s true (owner:Int):=⟨h1,h2,h3,by omega,by omega,.inl rfl⟩
theorem take_eq (bs:List Blk) (i P N owner n:Nat):takeB bs i P N owner n=bs.take i++(cutB (bs.getD i default) P N owner n++bs.drop (i+1)):=by unfold takeB;rw [List.append_assoc]
end
end
end Go.Proofs.YtfhiljglfhekdaaGreat
