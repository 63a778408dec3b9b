/-
  Texts of one layer, one behind the other: memory, contracts of the functions, and what follows of them.
  Conditions: as each theorem says.
-/
import Derived.Test.YtfhiljglfhekdaaGreatLMob
import Derived.Test.YtfhiljglfhekdaaGreatLCla
import Derived.Test.YtfhiljglfhekdaaGreatLHea
import Derived.Test.YtfhiljglfhekdaaGreatLMpa
import Derived.Deep.RegionLaw
set_option linter.unusedVariables false
set_option linter.unusedSimpArgs false
set_option maxRecDepth 100000
namespace Go.Proofs.YtfhiljglfhekdaaGreat
open Go.RowKit
section
def grF (all E n:Nat):Nat:=if n % 16≠0∨n<48 then 1 else if all<E+n then 3 else 0
def grJ (bs:List Blk) (E n:Nat):List Blk:=Ybs (bs++[Ya4 E n])
def hZ10:Array Value:=#[.int .u64 0,.slice none 0 0,.slice none 0 0,.slice none 0 0,.slice none 0 0,.slice none 0 0,.slice none 0 0,.slice none 0 0,.slice none 0 0,.slice none 0 0]
section
variable {w w' W:World} {F:Nat→Prop} {base all K:Nat} {v:Value} {E:Nat} {bs:List Blk} {L:Nat→List Nat}
theorem heap_boxes (cs:Array Value):((w.alloc (.cells cs 31)).alloc (.cells hZ10 31)).heap[w.heap.size]?=some (.cells cs 31 (0,0)) ∧
  ((w.alloc (.cells cs 31)).alloc (.cells hZ10 31)).heap[w.heap.size+1]?=some (.cells hZ10 31 (0,0))∧w.grownBy ((w.alloc (.cells cs 31)).alloc (.cells hZ10 31)) none:=by
 have h1:=Yab w (.cells cs 31)
 have h2:=Yab (w.alloc (.cells cs 31)) (.cells hZ10 31)
 simp only [World.size_alloc] at h2
 have g1:=World.grownBy_alloc w (.cells cs 31) none
 have g2:=World.grownBy_alloc (w.alloc (.cells cs 31)) (.cells hZ10 31) none
 exact ⟨(g2.block _ (lt_of_block h1) (by simp)).trans h1,h2,Yaa g1 g2⟩
theorem ovr_hp {E:Nat} {la:Option Addr} {n c:Nat} {va:Nat→Option Addr} {ln vc:Nat→Nat}:ovr hZ10 0 (hR E la n c va ln vc).toList=hR E la n c va ln vc:=Yau _ _ rfl
theorem rgrow12_not (h:HvF w F base v E bs L) (hE:E<18446744073709551616) (n:Nat) (hn64:n<18446744073709551616) (hall:all<18446744073709551616) (hne:grF all E n≠0) :
  Calls Tryz.prog 52 #[v,.int .u64 n,.int .u64 all] w fun e w'=>e=.returned (.tuple #[v,.int .i64 (grF all E n:Nat)])∧w.grownBy w' none:=by
 obtain ⟨la,m,c,va,ln,vc,rfl,hb,hl⟩:=hv_form h
 have c0:(hR E la m c va ln vc)[0]?=some (.int .u64 E):=rfl
 have hs1:(hR E la m c va ln vc).all (·.oneCell')=true:=hR_one
 have hs0:(hR E la m c va ln vc).size=10:=rfl
 obtain ⟨cs,hcs⟩:∃ cs,hR E la m c va ln vc=cs:=⟨_,rfl⟩
 rw [hcs] at c0 hs1 hs0 ⊢
 obtain ⟨b1,b2,hg⟩:=heap_boxes (w:=w) cs
 obtain ⟨W0,hW0⟩:∃ W0,((w.alloc (.cells cs 31)).alloc (.cells hZ10 31))=W0:=⟨_,rfl⟩
 rw [hW0] at b1 b2 hg
 have e0:W0.cell? ⟨w.heap.size,0,none⟩=some (.int .u64 E):=Yas b1 c0
 have HG:=Lib.hid hg
 clear h hb hl c0 hg hcs
 unfold hZ10 at hW0
 unfold grF at hne ⊢
 by_cases h1:n % 16≠0∨n<48
 ·rw [if_pos h1] at hne ⊢
  by_cases h2:n % 16=0
  ·have h3:(n:Int) % 16=0:=by omega
   have h4:(n:Int)<48:=by rcases h1 with h1|h1 <;> omega
   have H:=Lib.hid (And.intro h1 h2)
   clear h1 h2 hne
   go_enter Tryz.func52,Tryz.ntmps52
   go_wp2_with (first
    | (refine Yad rfl 31 _ rfl _ 0 rfl b1 cs (fun j v hj=>by simpa using hj) _ Tryz.underlying31 rfl (by rw [Ybc,hs0]) ?_)
    | (refine Yae rfl 31 _ _ rfl _ 0 rfl rfl b2 (by rw [hs0];exact Nat.le_refl _) (by rw [Ybc,hs0]) hs1 ?_;intro W1 p1 g1;rw [Yau hZ10 cs hs0] at p1))
   refine bodyPost_ret (Yet rfl _ rfl rfl p1 Tryz.underlying31 rfl (by rw [Ybc,hs0])) rfl ?_
   exact ⟨rfl,Yaj HG.out g1 (fun i hi=>.inl (by injection hi with hi;omega))⟩
  ·have h3:¬ (n:Int) % 16=0:=by omega
   have H:=Lib.hid (And.intro h1 h2)
   clear h1 h2 hne
   go_enter Tryz.func52,Tryz.ntmps52
   go_wp2_with (first
    | (refine Yad rfl 31 _ rfl _ 0 rfl b1 cs (fun j v hj=>by simpa using hj) _ Tryz.underlying31 rfl (by rw [Ybc,hs0]) ?_)
    | (refine Yae rfl 31 _ _ rfl _ 0 rfl rfl b2 (by rw [hs0];exact Nat.le_refl _) (by rw [Ybc,hs0]) hs1 ?_;intro W1 p1 g1;rw [Yau hZ10 cs hs0] at p1))
   refine bodyPost_ret (Yet rfl _ rfl rfl p1 Tryz.underlying31 rfl (by rw [Ybc,hs0])) rfl ?_
   exact ⟨rfl,Yaj HG.out g1 (fun i hi=>.inl (by injection hi with hi;omega))⟩
 ·rw [if_neg h1] at hne ⊢
  have hc:all<E+n:=by
   rcases Nat.lt_or_ge all (E+n) with h|h
   ·exact h
   ·rw [if_neg (by omega)] at hne;exact absurd rfl hne
  rw [if_pos hc]
  have h3:(n:Int) % 16=0:=by omega
  have h4:¬ (n:Int)<48:=by omega
  by_cases h5:E+n<18446744073709551616
  ·have hadd:=fun V=>radd_low E n h5 V
   obtain ⟨En,hEn⟩:∃ x,E+n=x:=⟨_,rfl⟩
   rw [hEn] at hc hadd
   have h6:(all:Int)<(En:Int):=by omega
   have H:=Lib.hid (And.intro h1 (And.intro h5 (And.intro hc hEn)))
   clear h1 hne h5 hc hEn
   go_enter Tryz.func52,Tryz.ntmps52
   go_wp2_with (first
    | (go_at_call 42;(with_reducible refine (hadd _).mono ?_);rintro e w1 ⟨rfl,rfl⟩)
    | (refine Yad rfl 31 _ rfl _ 0 rfl b1 cs (fun j v hj=>by simpa using hj) _ Tryz.underlying31 rfl (by rw [Ybc,hs0]) ?_)
    | (refine Yae rfl 31 _ _ rfl _ 0 rfl rfl b2 (by rw [hs0];exact Nat.le_refl _) (by rw [Ybc,hs0]) hs1 ?_;intro W1 p1 g1;rw [Yau hZ10 cs hs0] at p1))
   refine bodyPost_ret (Yet rfl _ rfl rfl p1 Tryz.underlying31 rfl (by rw [Ybc,hs0])) rfl ?_
   exact ⟨rfl,Yaj HG.out g1 (fun i hi=>.inl (by injection hi with hi;omega))⟩
  ·have hadd:=fun V=>radd_high E n hE hn64 (by omega) V
   have H:=Lib.hid (And.intro h1 (And.intro h5 hc))
   clear h1 hne h5 hc
   go_enter Tryz.func52,Tryz.ntmps52
   go_wp2_with (first
    | (go_at_call 42;(with_reducible refine (hadd _).mono ?_);rintro e w1 ⟨rfl,rfl⟩)
    | (refine Yad rfl 31 _ rfl _ 0 rfl b1 cs (fun j v hj=>by simpa using hj) _ Tryz.underlying31 rfl (by rw [Ybc,hs0]) ?_)
    | (refine Yae rfl 31 _ _ rfl _ 0 rfl rfl b2 (by rw [hs0];exact Nat.le_refl _) (by rw [Ybc,hs0]) hs1 ?_;intro W1 p1 g1;rw [Yau hZ10 cs hs0] at p1))
   refine bodyPost_ret (Yet rfl _ rfl rfl p1 Tryz.underlying31 rfl (by rw [Ybc,hs0])) rfl ?_
   exact ⟨rfl,Yaj HG.out g1 (fun i hi=>.inl (by injection hi with hi;omega))⟩
theorem hR_end {E E':Nat} {la:Option Addr} {n c:Nat} {va:Nat→Option Addr} {ln vc:Nat→Nat}:(hR E la n c va ln vc).setIfInBounds 0 (.int .u64 E')=hR E' la n c va ln vc:=rfl
theorem hR_blks {E:Nat} {la la':Option Addr} {n c n' c':Nat} {va:Nat→Option Addr} {ln vc:Nat→Nat}:(hR E la n c va ln vc).setIfInBounds 1 (.slice la' n' c')=hR E la' n' c' va ln vc:=rfl
set_option maxHeartbeats 1000000 in
theorem rgrow12_yes (h:HvF w F base v E bs L) (hlen:bs.length≤900) (hS:∀ k,k<bs.length→gS bs k≤10000000) (hbw:base≤w.heap.size) (n:Nat) (hall:all≤10000000) (hz:grF all E n=0) :
  Calls Tryz.prog 52 #[v,.int .u64 n,.int .u64 all] w fun e w'=>∃ v',e=.returned (.tuple #[v',.int .i64 0])∧HvF w' F base v' (E+n) (grJ bs E n) L∧w.grownBy w' none:=by
 obtain ⟨la,m,c,va,ln,vc,rfl,hb,hl⟩:=hv_form h
 obtain ⟨la',c',hlv,hat⟩:=hb.at_
 obtain ⟨N,hN⟩:∃ N,bs.length=N:=⟨_,rfl⟩
 rw [hN] at hlv hlen
 injection hlv with e1 e2 e3
 subst e1 e2 e3
 have hq:¬ (n % 16≠0∨n<48)∧¬ all<E+n:=by
  unfold grF at hz
  by_cases h1:n % 16≠0∨n<48
  ·rw [if_pos h1] at hz;exact absurd hz (by decide)
  ·rw [if_neg h1] at hz
   by_cases h2:all<E+n
   ·rw [if_pos h2] at hz;exact absurd hz (by decide)
   ·exact ⟨h1,h2⟩
 obtain ⟨hq1,hq2⟩:=hq
 have h3:(n:Int) % 16=0:=by omega
 have h4:¬ (n:Int)<48:=by omega
 have hadd:=fun V=>radd_low E n (by omega) V
 have hl1:(bs++[Ya4 E n]).length=m+1:=by rw [List.length_append,hN];rfl
 have hS2:∀ k,k<(bs++[Ya4 E n]).length→gS (bs++[Ya4 E n]) k≤10000000:=fun k hk=>by
  unfold gS at hS ⊢
  rcases Nat.lt_or_ge k bs.length with h'|h'
  ·rw [List.getD_eq_getElem?_getD,List.getElem?_append_left h',← List.getD_eq_getElem?_getD];exact hS k h'
  ·obtain rfl:k=bs.length:=by rw [hl1] at hk;omega
   rw [List.getD_eq_getElem?_getD,List.getElem?_append_right (Nat.le_refl _),Nat.sub_self]
   show n≤10000000
   omega
 have hjn:=fun (V:World) (lj:Option Addr) (cj:Nat) (hj:Yb0 V lj (bs++[Ya4 E n]))=>Yd9 (c:=cj) hj hl1 (by omega) hS2
 have HJN:=Lib.hid hjn
 obtain ⟨En,hEn⟩:∃ x,E+n=x:=⟨_,rfl⟩
 rw [hEn] at hq2 hadd ⊢
 have h6:¬ (all:Int)<(En:Int):=by omega
 obtain ⟨b1,b2,hg⟩:=heap_boxes (w:=w) (hR E la m c va ln vc)
 obtain ⟨W0,hW0⟩:∃ W0,((w.alloc (.cells (hR E la m c va ln vc) 31)).alloc (.cells hZ10 31))=W0:=⟨_,rfl⟩
 have hsW:W0.heap.size=w.heap.size+1+1:=by rw [← hW0];simp
 rw [hW0] at b1 b2 hg
 have e0:W0.cell? ⟨w.heap.size,0,none⟩=some (.int .u64 E):=Yas b1 rfl
 have b5:=Yab W0 (.cells #[.int .u64 0,.int .u64 0,.bool false,.int .i64 0,.int .u64 0] 81)
 have g5:=World.grownBy_alloc W0 (.cells #[.int .u64 0,.int .u64 0,.bool false,.int .i64 0,.int .u64 0] 81) none
 have HB1:=Lib.hid b1
 have HB2:=Lib.hid b2
 have HG:=Lib.hid hg
 have HSW:=Lib.hid hsW
 have HN:=Lib.hid hN
 have HBL:=Lib.hid (fun (V:World) (hg:w.grownBy V none)=>hat.later hg)
 have HH:=Lib.hid (And.intro hq1 (And.intro hq2 hEn))
 have HL:=Lib.hid hl
 have e0':(W0.alloc (.cells #[.int .u64 0,.int .u64 0,.bool false,.int .i64 0,.int .u64 0] 81)).cell? ⟨w.heap.size,0,none⟩=some (.int .u64 E):=Yas ((g5.block _ (lt_of_block b1) (by simp)).trans b1) rfl
 clear hjn hq1 hq2 hEn h hb hl hat hN hS hS2 hl1 hz hg hsW b1 b2
 unfold hZ10 at hW0
 have hrs:(hR E la m c va ln vc).size=10:=rfl
 go_enter Tryz.func52,Tryz.ntmps52
 go_wp2_with (first
  | (go_at_call 42;(with_reducible refine (hadd _).mono ?_);rintro e w1 ⟨rfl,rfl⟩)
  | (refine Yae (ps:=bkC ⟨E,0,false,0,0⟩) rfl 81 _ _ rfl _ 0 rfl rfl b5 (by exact Nat.le_refl 5) (by exact Yec) bkC_one ?_;intro w6 p6 g6;rw [Yau #[.int .u64 0,.int .u64 0,.bool false,.int .i64 0,.int .u64 0] (bkC ⟨E,0,false,0,0⟩) rfl] at p6)
  | (refine Ybd rfl 26 _ _ rfl _ 1 rfl rfl p6 (by show 1<5;decide) info_wd1 rfl ?_;intro w7 p7 g7;have p7:w7.heap[W0.heap.size]?=some (.cells (bkC ⟨E,n,false,0,0⟩) 81 (0,0)):=p7;have G7:W0.grownBy w7 none:=Yaj (Yaj g5 g6 (fun i hi=>.inl (by injection hi with hi;omega))) g7 (fun i hi=>.inl (by injection hi with hi;omega));have SB7:=(G7.block _ (lt_of_block HB1.out) (by simp)).trans HB1.out;have RB7:=(G7.block _ (lt_of_block HB2.out) (by simp)).trans HB2.out;have g8:=World.grownBy_alloc w7 (.cells #[] 81) none;have SB8:=(g8.block _ (lt_of_block SB7) (by simp)).trans SB7;have RB8:=(g8.block _ (lt_of_block RB7) (by simp)).trans RB7;have p8:=(g8.block _ (lt_of_block p7) (by simp)).trans p7;have c1:=Yas SB8 (show (hR E la m c va ln vc)[1]?=some (.slice la m c) from rfl);have G8:=Yaa G7 g8;have GW8:=Yaa HG.out G8;have ho0:OwnB (w7.alloc (.cells #[] 81)) w7.heap.size 81 (.slice (some ⟨w7.heap.size,0,none⟩) 0 0) []:=ownB_none rfl (Nat.le_refl _))
  | (at_builtin;refine Yao ho0 (HBL.out _ GW8) rfl HN.out (show 0+m≤1000000 by omega) (by rw [World.size_alloc];omega) rfl _ _ rfl rfl rfl ?_;intro v9 w9 ho9 hg9 hlo9;rw [List.nil_append] at ho9;have G9:w7.grownBy w9 none:=(by have hg9s:(w7.alloc (.cells #[] 81)).grownBy w9 (some w7.heap.size):=hg9;exact Yap (Yaa (Yam g8 _) hg9s) (Nat.le_refl _));have p9:=(G9.block _ (lt_of_block p7) (by simp)).trans p7)
  | (refine Yad rfl 81 _ rfl _ 0 rfl p9 (bkC ⟨E,n,false,0,0⟩) (fun j v hj=>by simpa using hj) _ Tryz.underlying81 rfl Yec ?_;simp only [bkC])
  | (at_builtin;refine Ycv HN.out ho9 (by rw [HN.out];omega) (by exact G9.size) ⟨E,n,false,0,0⟩ rfl _ _ rfl rfl rfl rfl ?_;intro g cp w10 ho10 hg10 hlo10;have G10:w7.grownBy w10 none:=Yaj G9 hg10 (fun i hi=>.inl (World.ownsRow.lt ho9 i hi).1);have SB10:=(G10.block _ (lt_of_block SB7) (by simp)).trans SB7;have RB10:=(G10.block _ (lt_of_block RB7) (by simp)).trans RB7)
  | (refine Ybd (u:=.int .u64 (En:Nat)) rfl 26 _ _ rfl _ 0 rfl rfl SB10 (by show 0<10;decide) info_wd1 rfl ?_;intro w11 SB11 g11;rw [hR_end] at SB11;have RB11:=(g11.block _ (lt_of_block RB10) (by simp)).trans RB10;have ho11:OwnB w11 w7.heap.size 81 (.slice (some ⟨g,0,none⟩) (m+1) cp) (bs++[Ya4 E n]):=Ya8 ho10 g11 SB10 boxHp.1)
  | (go_at_call 82;(with_reducible refine (HJN.out _ _ _ (own_at ho11)).mono ?_);rintro e w12 ⟨v12,rfl,ho12,g12⟩;obtain ⟨l12,n12,c12,rfl,HN12⟩:=Ydz ho12;have SB12:=(g12.block _ (lt_of_block SB11) (by simp)).trans SB11;have RB12:=(g12.block _ (lt_of_block RB11) (by simp)).trans RB11)
  | (refine Ybd (u:=.slice l12 n12 c12) rfl 27 _ _ rfl _ 1 rfl rfl SB12 (by show 1<10;decide) info_bsl (by rfl) ?_;intro w13 SB13 g13;rw [hR_blks] at SB13;have RB13:=(g13.block _ (lt_of_block RB12) (by simp)).trans RB12;have ho13:OwnB w13 w11.heap.size 81 (.slice l12 n12 c12) (grJ bs E n):=Ya8 ho12 g13 SB12 boxHp.1)
  | (refine Yad rfl 31 _ rfl _ 0 rfl SB13 (hR En l12 n12 c12 va ln vc) (fun j v hj=>by simpa using hj) _ Tryz.underlying31 rfl Ybc ?_)
  | (refine Yae (ps:=hR En l12 n12 c12 va ln vc) rfl 31 _ _ rfl _ 0 rfl rfl RB13 (by exact Nat.le_refl 10) (by exact Ybc) hR_one ?_;intro w14 p14 g14;rw [ovr_hp] at p14;have ho14:OwnB w14 w11.heap.size 81 (.slice l12 n12 c12) (grJ bs E n):=Ya8 ho13 g14 RB13 boxHp.1))
 refine bodyPost_ret (Yet rfl _ rfl rfl p14 Tryz.underlying31 rfl Ybc) rfl ?_
 have GA:w.grownBy w10 none:=Yaa HG.out (Yaa G7 G10)
 have GB:w.grownBy w11 none:=Yaj GA g11 (fun i hi=>.inl (by injection hi with hi;omega))
 have GC:w.grownBy w12 none:=Yaa GB g12
 have GF:w.grownBy w14 none:=Yaj (Yaj GC g13 (fun i hi=>.inl (by injection hi with hi;omega))) g14 (fun i hi=>.inl (by injection hi with hi;omega))
 exact ⟨_,rfl,hv_of (ho14.mono (Nat.le_trans hbw GB.size)) (fun k hk=>(HL.out k hk).later GF),GF⟩
end
end
section
def mayM (size all:Nat):Prop:=fitsP size all∧all≤1048576∧all % 8=0
instance (size all:Nat):Decidable (mayM size all):=by unfold mayM;exact inferInstance
def newM (size:Nat):MS:=⟨size,[Ya4 3776 (size - 3776)],fun _=>[],[],[],fun _=>false⟩
def liveL (lv:Nat→Bool):List Nat:=(List.range 8).filter fun k=>lv k
section
variable {w w' W:World} {F:Nat→Prop} {base all K:Nat} {v:Value} {S:MS}
theorem rmay14 (size all:Nat):Calls Tryz.prog 24 #[.int .u64 size,.int .u64 all] w fun e w'=>e=.returned (.bool (decide (mayM size all)))∧w=w':=by
 have hf:=rfits_any size all w
 unfold mayM
 by_cases h1:fitsP size all
 ·rw [show decide (fitsP size all)=true by simpa using h1] at hf
  by_cases h2:all≤1048576
  ·by_cases h3:all % 8=0
   ·have H:=Lib.hid (show decide (fitsP size all∧all≤1048576∧all % 8=0)=true by simp [h1,h2,h3])
    have h2':(all:Int)≤1048576:=by omega
    have h3':(all:Int) % 8=0:=by omega
    clear h1 h2 h3
    go_enter Tryz.func24,Tryz.ntmps24
    go_wp2_with (go_at_call 46;(with_reducible refine hf.mono ?_);rintro e w1 ⟨rfl,rfl⟩)
    go_ret
    exact ⟨by rw [H.out];rfl,rfl⟩
   ·have H:=Lib.hid (show decide (fitsP size all∧all≤1048576∧all % 8=0)=false by simp [h3])
    have h2':(all:Int)≤1048576:=by omega
    have h3':¬ (all:Int) % 8=0:=by omega
    have h3b:((all:Int) % 8 == 0)=false:=by simpa using h3'
    clear h1 h2 h3
    go_enter Tryz.func24,Tryz.ntmps24
    go_wp2_with (go_at_call 46;(with_reducible refine hf.mono ?_);rintro e w1 ⟨rfl,rfl⟩)
    go_ret
    exact ⟨by rw [H.out];rfl,rfl⟩
  ·have H:=Lib.hid (show decide (fitsP size all∧all≤1048576∧all % 8=0)=false by simp [h2])
   have h2':¬ (all:Int)≤1048576:=by omega
   clear h1 h2
   go_enter Tryz.func24,Tryz.ntmps24
   go_wp2_with (go_at_call 46;(with_reducible refine hf.mono ?_);rintro e w1 ⟨rfl,rfl⟩)
   go_ret
   exact ⟨by rw [H.out];rfl,rfl⟩
 ·rw [show decide (fitsP size all)=false by simpa using h1] at hf
  have H:=Lib.hid (show decide (fitsP size all∧all≤1048576∧all % 8=0)=false by simp [h1])
  clear h1
  go_enter Tryz.func24,Tryz.ntmps24
  go_wp2_with (go_at_call 46;(with_reducible refine hf.mono ?_);rintro e w1 ⟨rfl,rfl⟩)
  go_ret
  exact ⟨by rw [H.out];rfl,rfl⟩
theorem rnew14 {size:Nat} (h1:3776≤size) (h2:size<18446744073709551616) (all:Nat) (hFb:∀ g,F g→g<w.heap.size) :
  Calls Tryz.prog 25 #[.int .u64 size,.int .u64 all] w fun e w'=>∃ v,e=.returned v∧StIs w' F w.heap.size v all (newM size)∧w.grownBy w' none:=by
 have b1:=Yab w (.cells sZ 36)
 have hg:=World.grownBy_alloc w (.cells sZ 36) none
 obtain ⟨W0,hW0⟩:∃ W0,w.alloc (.cells sZ 36)=W0:=⟨_,rfl⟩
 rw [hW0] at b1 hg
 have hnw:=rnew10_any size h1 h2 W0
 have HG:=Lib.hid hg
 have HFB:=Lib.hid hFb
 clear h1 h2 hg
 unfold sZ at hW0
 go_enter Tryz.func25,Tryz.ntmps25
 go_wp2_with (first
  | (go_at_call 47;(with_reducible refine hnw.mono ?_);rintro e w1 ⟨v1,rfl,hv1,hg1⟩;obtain ⟨bq,vs,rfl,hb0,hl0⟩:=hv1.is;obtain ⟨la,m,c,va,ln,vc,hvv,hb,hl⟩:=hv_form (w:=w1) (base:=W0.heap.size) (v:=Ya1 size bq vs) (E:=size) (L:=fun _=>[]) ⟨bq,vs,rfl,hb0,fun k hk=>⟨hl0 k hk,fun g e hk2=>by have:=HFB.out g hk2;have:=(World.ownsRow.lt (hl0 k hk) g e).1;have:=HG.out.size;omega⟩⟩;rw [hvv];have b2:=(hg1.block _ (lt_of_block b1) (by simp)).trans b1;unfold hR)
  | (refine Yae (ps:=sC all size la m c va ln vc none 0 0 none 0 0 (fun _=>false)) rfl 36 _ _ rfl _ 0 rfl rfl b2 (by exact Nat.le_refl 21) (by exact Yai) sC_one ?_;intro w2 p2 g2;rw [ovr_st] at p2))
 refine bodyPost_ret (results_cell_row rfl _ _ _ _ _ _ _ rfl p2 Tryz.underlying36 rfl Yai) rfl ?_
 have hs0:=HG.out.size
 have ho:=Ya8 hb g2 b2 Ybt.1
 exact ⟨_,rfl,⟨la,m,c,va,ln,vc,none,0,0,none,0,0,[],rfl,OwnB.mono ho hs0,fun k hk=>⟨(Ya8 (hl k hk).1 g2 b2 Ybt.2.1).mono hs0,(hl k hk).2⟩,⟨World.ownsRow_nil _ _ _ _,fun q hq=>by cases hq⟩,rfl,World.ownsRow_nil _ _ _ _,fun t ht=>by cases ht⟩,Yaj (Yaa HG.out hg1) g2 (fun i hi=>.inl (by injection hi with hi;omega))⟩
theorem rlive14 (h:StIs w F base v all S) (hbw:base≤w.heap.size) :
  Calls Tryz.prog 30 #[v] w fun e w'=>∃ v',e=.returned v'∧OwnI w' w.heap.size v' (liveL S.lv)∧w.grownBy w' none:=by
 obtain ⟨la,n,cp,va,ln,vc,da,dn,dc,na,nn,nc,lD,rfl,hb,hl,hd,hpl,hn,hf⟩:=h
 have hlive:=fun (k:Nat) (hk:k<8)=>sC_at_live (all:=all) (E:=S.E) (la:=la) (n:=n) (c:=cp) (va:=va) (ln:=ln) (vc:=vc) (da:=da) (dn:=dn) (dc:=dc) (na:=na) (nn:=nn) (nc:=nc) (lv:=S.lv) hk
 obtain ⟨cs,hcs⟩:∃ cs,sC all S.E la n cp va ln vc da dn dc na nn nc S.lv=cs:=⟨_,rfl⟩
 rw [hcs] at ⊢
 simp only [hcs] at hlive
 have b1:=Yab w (.cells cs 36)
 have hg0:=World.grownBy_alloc w (.cells cs 36) none
 obtain ⟨W0,hW0⟩:∃ W0,w.alloc (.cells cs 36)=W0:=⟨_,rfl⟩
 rw [hW0] at b1 hg0
 have hsz0:W0.heap.size=w.heap.size+1:=by rw [← hW0];simp
 have hbox:∀ w' (k:Nat),k<8→W0.grownBy w' none→w'.cell? ⟨w.heap.size,13+k,none⟩=some (.bool (S.lv k)):=fun w' k hk hg=>Yas ((hg.block _ (lt_of_block b1) (by simp)).trans b1) (hlive k hk)
 have HB:=Lib.hid hbox
 have HG:=Lib.hid hg0
 clear hbox hlive b1 hg0 hb hl hd hpl hn hcs
 go_enter Tryz.func30,Tryz.ntmps30
 go_wp2
 clear hW0
 go_loopw [3,4] (fun v i wr=>∃ k:Nat,k≤8∧i=.int .i64 k∧OwnI wr W0.heap.size v ((List.range k).filter fun x=>S.lv x)∧W0.grownBy wr none) (fun _ i _=>8 - (intOf i).toNat)
 case atStart=>exact ⟨0,Nat.zero_le _,rfl,World.ownsRow_nil _ _ _ _,Yag _ _⟩
 case round =>
  obtain ⟨k,hk,rfl,hown,hgr⟩:=hrel
  by_cases h1:k<8
  ·have h1':(k:Int)<8:=by omega
   have c1:=HB.out wr k h1 hgr
   obtain ⟨x,hx⟩:∃ x,S.lv k=x:=⟨_,rfl⟩
   rw [hx] at c1
   have hfl:((List.range k).filter fun x=>S.lv x).length≤8:=Nat.le_trans (List.length_filter_le _ _) (by simp;omega)
   have hsz1:=hgr.size
   cases x with
   | true =>
    have hfil:(List.range (k+1)).filter (fun y=>S.lv y)=(List.range k).filter (fun y=>S.lv y)++[k]:=by rw [List.range_succ,List.filter_append];simp [hx]
    have HF:=Lib.hid hfil
    clear hfil hx
    go_wp2_with (at_builtin;go_must (refine Yeo rfl _ _ rfl W0.heap.size _ _ rfl hown k rfl (by omega) hsz1 ?_);intro v' w3 hown3 hg3)
    go_roundw
    case rel=>exact ⟨k+1,by omega,by go_num,by rw [HF.out];exact hown3,Yaj hgr hg3 (fun i hi=>.inl (own_int hown hi).1)⟩
    case measure=>simp [intOf];omega
   | false =>
    have hfil:(List.range (k+1)).filter (fun y=>S.lv y)=(List.range k).filter (fun y=>S.lv y):=by rw [List.range_succ,List.filter_append];simp [hx]
    have HF:=Lib.hid hfil
    clear hfil hx
    go_wp2
    go_roundw
    case rel=>exact ⟨k+1,by omega,by go_num,by rw [HF.out];exact hown,hgr⟩
    case measure=>simp [intOf];omega
  ·obtain rfl:k=8:=by omega
   replace hown:OwnI wr w.heap.size _ (liveL S.lv):=OwnI.mono hown (by omega)
   obtain ⟨xa,xn,xc,hvv⟩:=iv_form hown
   subst hvv
   go_wp2
   go_ret
   exact ⟨_,rfl,hown,Yaa HG.out hgr⟩
end
end
section
def callC (c:Int) (x:OpM) (at_:Nat) (kill:Bool):Array Value:=#[.int .i64 c,.int .i64 x.kind,.int .u64 x.n,.int .u64 x.a,.int .u64 x.off,.int .u64 x.i,.int .u64 x.v,.int .i64 x.to,.string x.name,.int .u8 at_,.bool kill]
def opZ:Array Value:=#[.int .i64 0,.int .u64 0,.int .u64 0,.int .u64 0,.int .u64 0,.int .u64 0,.int .i64 0,.string ⟨#[]⟩]
def resM (bs:List Blk) (x:OpM) (at_:Nat):OpM:={ x with off:=if x.off<16 then payB bs at_+x.off else x.off }
theorem callC_op {c:Int} {x:OpM} {at_:Nat} {kill:Bool}:∀ j v,(opC x)[j]?=some v→(callC c x at_ kill)[1+j]?=some v:=by
 intro j v hj
 have hlt:j<8:=(Array.getElem?_eq_some_iff.1 hj).1
 rcases (show j=0∨j=1∨j=2∨j=3∨j=4∨j=5∨j=6∨j=7 by omega) with rfl|rfl|rfl|rfl|rfl|rfl|rfl|rfl <;> exact hj
theorem Ybb:(Tryz.prog.info? 41).map (·.size)=some 8:=by kernel_rfl
theorem op_boxes {w:World} (cs ds:Array Value):(((w.alloc (.cells cs 36)).alloc (.cells ds 43)).alloc (.cells opZ 41)).heap[w.heap.size]?=some (.cells cs 36 (0,0)) ∧
  (((w.alloc (.cells cs 36)).alloc (.cells ds 43)).alloc (.cells opZ 41)).heap[w.heap.size+1]?=some (.cells ds 43 (0,0)) ∧
  (((w.alloc (.cells cs 36)).alloc (.cells ds 43)).alloc (.cells opZ 41)).heap[w.heap.size+1+1]?=some (.cells opZ 41 (0,0)) ∧
  w.grownBy (((w.alloc (.cells cs 36)).alloc (.cells ds 43)).alloc (.cells opZ 41)) none:=by
 have h1:=Yab w (.cells cs 36)
 have h2:=Yab (w.alloc (.cells cs 36)) (.cells ds 43)
 have h3:=Yab ((w.alloc (.cells cs 36)).alloc (.cells ds 43)) (.cells opZ 41)
 simp only [World.size_alloc] at h2 h3
 have g1:=World.grownBy_alloc w (.cells cs 36) none
 have g2:=World.grownBy_alloc (w.alloc (.cells cs 36)) (.cells ds 43) none
 have g3:=World.grownBy_alloc ((w.alloc (.cells cs 36)).alloc (.cells ds 43)) (.cells opZ 41) none
 exact ⟨((Yaa g2 g3).block _ (lt_of_block h1) (by simp)).trans h1,(g3.block _ (lt_of_block h2) (by simp)).trans h2,h3,Yaa g1 (Yaa g2 g3)⟩
section
variable {w w' W:World} {F:Nat→Prop} {base all K:Nat} {v:Value} {S:MS}
set_option maxHeartbeats 2000000 in
theorem rresolve14_high (h:StIs w F base v all S) (c:Int) (x:OpM) (at_:Nat) (kill:Bool) (hx:16≤x.off) :
  Calls Tryz.prog 14 #[v,.agg (callC c x at_ kill)] w fun e w'=>e=.returned (.agg (opC (resM S.bs x at_)))∧w.grownBy w' none:=by
 obtain ⟨la,n,cp,va,ln,vc,da,dn,dc,na,nn,nc,lD,rfl,hb,hl,hd,hpl,hn,hf⟩:=h
 obtain ⟨cs,hcs⟩:∃ cs,sC all S.E la n cp va ln vc da dn dc na nn nc S.lv=cs:=⟨_,rfl⟩
 rw [hcs]
 have hop:=callC_op (c:=c) (x:=x) (at_:=at_) (kill:=kill)
 obtain ⟨ds,hds⟩:∃ ds,callC c x at_ kill=ds:=⟨_,rfl⟩
 rw [hds] at hop ⊢
 obtain ⟨b1,b2,b3,hg⟩:=op_boxes (w:=w) cs ds
 obtain ⟨W0,hW0⟩:∃ W0,(((w.alloc (.cells cs 36)).alloc (.cells ds 43)).alloc (.cells opZ 41))=W0:=⟨_,rfl⟩
 rw [hW0] at b1 b2 b3 hg
 have HR:Hid (resM S.bs x at_=x):=Lib.hid (by unfold resM;rw [if_neg (by omega)])
 have hxi:¬ (x.off:Int)<16:=by omega
 have b5:=Yab W0 (.cells opZ 41)
 have g5:=World.grownBy_alloc W0 (.cells opZ 41) none
 have HOP:=Lib.hid hop
 have HG:=Lib.hid hg
 have b2':=(g5.block _ (lt_of_block b2) (by simp)).trans b2
 clear hb hl hd hpl hn hcs hds hop hg hx
 unfold opZ at hW0
 go_enter Tryz.func14,Tryz.ntmps14
 go_wp2_with (first
  | (refine Yad rfl 41 _ rfl _ 1 rfl b2 (opC x) HOP.out _ Tryz.underlying41 rfl Ybb ?_)
  | (refine Yad rfl 41 _ rfl _ 1 rfl b2' (opC x) HOP.out _ Tryz.underlying41 rfl Ybb ?_)
  | (refine Yae (ps:=opC x) rfl 41 _ _ rfl _ 0 rfl rfl b5 (by exact Nat.le_refl 8) (by exact Ybb) opC_one ?_;intro w6 p6 g6;rw [Yau opZ (opC x) rfl] at p6;have k3:=Yas p6 (show (opC x)[3]?=some (.int .u64 (x.off:Nat)) from rfl);have G6:W0.grownBy w6 none:=Yaj g5 g6 (fun i hi=>.inl (by injection hi with hi;omega));have b36:=(G6.block _ (lt_of_block b3) (by simp)).trans b3)
  | (refine Yad rfl 41 _ rfl _ 0 rfl p6 (opC x) (fun j v hj=>by simpa using hj) _ Tryz.underlying41 rfl Ybb ?_)
  | (refine Yae (ps:=opC x) rfl 41 _ _ rfl _ 0 rfl rfl b36 (by exact Nat.le_refl 8) (by exact Ybb) opC_one ?_;intro w8 p8 g8;rw [Yau opZ (opC x) rfl] at p8))
 refine bodyPost_ret (results_cell_row rfl _ _ _ _ _ _ _ rfl p8 Tryz.underlying41 rfl Ybb) rfl ?_
 exact ⟨by rw [HR.out],Yaj (Yaa HG.out G6) g8 (fun i hi=>.inl (by injection hi with hi;omega))⟩
set_option maxHeartbeats 2000000 in
theorem rresolve14_low (h:StIs w F base v all S) (hlen:S.bs.length≤1000) (hbd:Yds S.bs) (c:Int) (x:OpM) {at_:Nat} (hat:at_<256) (kill:Bool) (hx:x.off<16) (hP:payB S.bs at_≤1000000000) :
  Calls Tryz.prog 14 #[v,.agg (callC c x at_ kill)] w fun e w'=>e=.returned (.agg (opC (resM S.bs x at_)))∧w.grownBy w' none:=by
 obtain ⟨la,n,cp,va,ln,vc,da,dn,dc,na,nn,nc,lD,rfl,hb,hl,hd,hpl,hn,hf⟩:=h
 have hpay:=fun (V:World) (hV:w.grownBy V none)=>rpayload10_any ((hv_of (E:=S.E) hb hl).is.later hV) hlen hbd at_ (by omega)
 obtain ⟨P,hPe⟩:∃ P,payB S.bs at_=P:=⟨_,rfl⟩
 rw [hPe] at hP hpay
 obtain ⟨b1,b2,b3,hg⟩:=op_boxes (w:=w) (sC all S.E la n cp va ln vc da dn dc na nn nc S.lv) (callC c x at_ kill)
 obtain ⟨W0,hW0⟩:∃ W0,(((w.alloc (.cells (sC all S.E la n cp va ln vc da dn dc na nn nc S.lv) 36)).alloc (.cells (callC c x at_ kill) 43)).alloc (.cells opZ 41))=W0:=⟨_,rfl⟩
 rw [hW0] at b1 b2 b3 hg
 have HR:Hid (resM S.bs x at_={ x with off:=P+x.off }):=Lib.hid (by unfold resM;rw [if_pos hx,hPe])
 have hxi:(x.off:Int)<16:=by omega
 have hwr:IntKind.u64.wrap ((P:Int)+(x.off:Int))=((P+x.off:Nat):Int):=by rw [IntKind.wrap_u64];omega
 have hwa:IntKind.i64.wrap (at_:Int)=(at_:Int):=by rw [IntKind.wrap_i64];omega
 have b5:=Yab W0 (.cells opZ 41)
 have g5:=World.grownBy_alloc W0 (.cells opZ 41) none
 have b2':=(g5.block _ (lt_of_block b2) (by simp)).trans b2
 have HPAY:=Lib.hid hpay
 have HG:=Lib.hid hg
 clear hb hl hd hpl hn hg hx hP hPe hpay hlen hbd
 unfold opZ at hW0
 go_enter Tryz.func14,Tryz.ntmps14
 go_wp2_with (first
  | (refine Yad rfl 41 _ rfl _ 1 rfl b2 (opC x) callC_op _ Tryz.underlying41 rfl Ybb ?_)
  | (refine Yad rfl 41 _ rfl _ 1 rfl b2' (opC x) callC_op _ Tryz.underlying41 rfl Ybb ?_)
  | (refine Yae (ps:=opC x) rfl 41 _ _ rfl _ 0 rfl rfl b5 (by exact Nat.le_refl 8) (by exact Ybb) opC_one ?_;intro w6 p6 g6;rw [Yau opZ (opC x) rfl] at p6;have k3:=Yas p6 (show (opC x)[3]?=some (.int .u64 (x.off:Nat)) from rfl);have G6:W0.grownBy w6 none:=Yaj g5 g6 (fun i hi=>.inl (by injection hi with hi;omega));have b16:=(G6.block _ (lt_of_block b1) (by simp)).trans b1;have b26:=(G6.block _ (lt_of_block b2) (by simp)).trans b2;have b36:=(G6.block _ (lt_of_block b3) (by simp)).trans b3))
 have hsc:∀ V:World,w6.grownBy V none→V.cell? ⟨W0.heap.size,3,none⟩=some (.int .u64 (x.off:Nat))∧V.frozen? ⟨W0.heap.size,3,none⟩=false:=fun V hV =>
  have h1:=(hV.block _ (lt_of_block p6) (by simp)).trans p6
  ⟨Yas h1 rfl,Ydw h1 _⟩
 have y0:w6.cell? ⟨w.heap.size,1,none⟩=some (.int .u64 S.E):=Yas b16 rfl
 have y1:w6.cell? ⟨w.heap.size,2,none⟩=some (.slice la n cp):=Yas b16 rfl
 have y2:w6.cell? ⟨w.heap.size,3,none⟩=some (.slice (va 0) (ln 0) (vc 0)):=Yas b16 rfl
 have y3:w6.cell? ⟨w.heap.size,4,none⟩=some (.slice (va 1) (ln 1) (vc 1)):=Yas b16 rfl
 have y4:w6.cell? ⟨w.heap.size,5,none⟩=some (.slice (va 2) (ln 2) (vc 2)):=Yas b16 rfl
 have y5:w6.cell? ⟨w.heap.size,6,none⟩=some (.slice (va 3) (ln 3) (vc 3)):=Yas b16 rfl
 have y6:w6.cell? ⟨w.heap.size,7,none⟩=some (.slice (va 4) (ln 4) (vc 4)):=Yas b16 rfl
 have y7:w6.cell? ⟨w.heap.size,8,none⟩=some (.slice (va 5) (ln 5) (vc 5)):=Yas b16 rfl
 have y8:w6.cell? ⟨w.heap.size,9,none⟩=some (.slice (va 6) (ln 6) (vc 6)):=Yas b16 rfl
 have y9:w6.cell? ⟨w.heap.size,10,none⟩=some (.slice (va 7) (ln 7) (vc 7)):=Yas b16 rfl
 have q9:w6.cell? ⟨w.heap.size+1,9,none⟩=some (.int .u8 at_):=Yas b26 rfl
 have GD:w6.grownBy w6.drew none:=Yah (Yag _ _)
 obtain ⟨k3,f3⟩:=hsc w6 (Yag _ _)
 have hpy:=HPAY.out w6.drew (Yaa HG.out (Yaa G6 GD))
 unfold hR at hpy
 go_region_law (first|(go_simp;go_at_call 35;go_must ((with_reducible refine hpy.mono ?_);rintro e w7 ⟨rfl,hg7⟩;have GN:=Yaa GD hg7;obtain ⟨k3,f3⟩:=hsc w7 GN)))
 all_goals
  have p7:=(GN.block _ (lt_of_block p6) (by simp)).trans p6
  have b37:=(GN.block _ (lt_of_block b36) (by simp)).trans b36
  have px:=Yb7 (k:=3) (v:=.int .u64 ((P:Int)+(x.off:Int))) p7
  have gx:w7.grownBy (w7.setCell ⟨W0.heap.size,3,none⟩ (.int .u64 ((P:Int)+(x.off:Int)))) (some W0.heap.size):=Yac _ _ _ _
  obtain ⟨W8,hW8⟩:∃ W8,w7.setCell ⟨W0.heap.size,3,none⟩ (.int .u64 ((P:Int)+(x.off:Int)))=W8:=⟨_,rfl⟩
  rw [hW8] at px gx ⊢
  have hlt:=lt_of_block b3
  have b3x:=(gx.block _ (lt_of_block b37) (by simp;omega)).trans b37
  have px:W8.heap[W0.heap.size]?=some (.cells (opC { x with off:=P+x.off }) 41 (0,0)):=px
  have GX:w.grownBy W8 none:=Yaj (Yaa HG.out (Yaa G6 GN)) gx (fun i hi=>.inl (by injection hi with hi;omega))
  obtain ⟨xx,hxx⟩:∃ y,({ x with off:=P+x.off }:OpM)=y:=⟨_,rfl⟩
  have HXd:=Lib.hid (HR.out.trans hxx)
  rw [hxx] at px
  clear y0 y1 y2 y3 y4 y5 y6 y7 y8 y9 q9 k3 f3 hsc hpy hg7 GN GD hW8 gx hwr hwa hxx hlt
  go_wp2_with (first
   | (refine Yad rfl 41 _ rfl _ 0 rfl px (opC xx) (fun j v hj=>by simpa using hj) _ Tryz.underlying41 rfl Ybb ?_)
   | (refine Yae (ps:=opC xx) rfl 41 _ _ rfl _ 0 rfl rfl b3x (by exact Nat.le_refl 8) (by exact Ybb) opC_one ?_;intro w9 p9 g9;rw [Yau opZ (opC xx) rfl] at p9))
  refine bodyPost_ret (results_cell_row rfl _ _ _ _ _ _ _ rfl p9 Tryz.underlying41 rfl Ybb) rfl ?_
  exact ⟨by rw [HXd.out],Yaj GX g9 (fun i hi=>.inl (by injection hi with hi;omega))⟩
end
end
end Go.Proofs.YtfhiljglfhekdaaGreat
