/-
  Texts of one layer, one behind the other: memory, contracts of the functions, and what follows of them.
  Conditions: as each theorem says.
-/
import Derived.Test.YtcbdbflgfhbikaaGreatLRsb
import Derived.Test.YtcbdbflgfhbikaaGreatLRsa
import Derived.Test.YtcbdbflgfhbikaaGreatLRea
import Derived.Test.YtcbdbflgfhbikaaGreatLCal
set_option linter.unusedVariables false
set_option linter.unusedSimpArgs false
namespace Go.Proofs.YtcbdbflgfhbikaaGreat
open Go.RowKit
set_option maxRecDepth 100000
def dS12 (X O A N:Nat→Nat):Nat→List Blk × (Nat→List Nat)
 | 0=>([freeB 3776 704],fun _=>[])
 | k+1=>(dB (dS12 X O A N k).1 (X k) (O k) (A k) (N k),dL (dS12 X O A N k).1 (dS12 X O A N k).2 (X k) (O k) (A k) (N k))
structure PlW12 (w:World) (hb T E:Nat) (bs:List Blk) (L:Nat→List Nat) (wr:World):Prop where
 is:∃ (R:Option Nat) (la:Option Addr) (n c:Nat) (va:Nat→Option Addr) (ln vc:Nat→Nat),HW w wr T R (fmt48 4480) E bs L∧HvK wr R w.heap.size (heapV E (.slice la n c) (fun c=>.slice (va c) (ln c) (vc c))) E bs L∧wr.heap[hb]?=some (.cells (hC E la n c va ln vc) 30 (0,0))
 res:wr.heap[w.heap.size]?=some (.cells hZ 30 (0,0))
def Done12 (w:World) (bs:List Blk) (L:Nat→List Nat) (e:Ending) (w':World):Prop :=
 ∃ T R v,e=.returned (.tuple #[.pointer (some ⟨T,0,none⟩),v,.bool true])∧HW w w' T R (fmt48 4480) 4480 bs L∧HvK w' R w.heap.size v 4480 bs L
set_option maxHeartbeats 8000000 in
theorem played12_any {w:World} {la:Option Addr} {n c:Nat} {X O A N:Nat→Nat} (hp:DoneAt w la n X O A N) (hn:n≤maxLen) :
  Calls Tryz.prog 9 #[.slice la n c] w (Done12 w (dS12 X O A N (min n 25)).1 (dS12 X O A N (min n 25)).2):=by
 have hfo:∀ w,Calls Tryz.prog 25 #[.int .u64 4480,.slice none 0 0] w _:=fun w=>formed12_nil 4480 (by decide) w
 obtain ⟨E,hE⟩:∃ E:Nat,4480=E:=⟨_,rfl⟩
 have hnw:∀ w,Calls Tryz.prog 26 #[.int .u64 4480] w fun e w'=>∃ v,e=.returned v∧HvIs w' w.heap.size v E [freeB 3776 704] (fun _=>[])∧w.grownBy w' none:=fun w=>by
  rw [← hE]
  exact rnew10_any 4480 (by decide) (by decide) w
 have HE:=Lib.hid hE
 have hsf:SoundF (txSee (fmt48 4480) []) E [freeB 3776 704] (fun _=>[]):=by
  rw [← hE]
  exact sound_first12
 clear hE
 unfold maxLen at hn
 go_enter Tryz.func9,Tryz.ntmps9
 go_wp2_with (first|(go_at_call 25;((with_reducible refine (hfo _).mono ?_);rintro e w2 ⟨B,D,T,M,R,wv,pv,rfl,X2,hrt,hne⟩;obtain ⟨wa,wn,wc,hwv⟩:=wv_form hrt.words;subst hwv;obtain ⟨pa,pn,pc,hpv⟩:=pv_form hrt.puts;subst hpv))|(go_at_call 26;((with_reducible refine (hnw _).mono ?_);rintro e w3 ⟨v,rfl,hv,hg3⟩;obtain ⟨b0,vs0,hve,hob,hol⟩:=hv.is;obtain ⟨va,ln,vc,hvl,hol',hln⟩:=heap_lie (E:=E) (b:=b0) hol;rw [hvl] at hve;obtain ⟨lb,cb,hbe,_⟩:=hob.at_;replace hbe:b0=.slice lb 1 cb:=hbe;subst hbe;subst hve;simp only [heapV])))
 have hs0:=heap_alloc_new' w (.cells hZ 30)
 have hg0:=World.grownBy_alloc w (.cells hZ 30) none
 have X3:=(X2.from hg0).later (grown_trans (World.grownBy_alloc _ _ _) hg3)
 have ga:=World.grownBy_alloc w3 (.cells (hC E lb 1 cb va ln vc) 30) none
 have hbx:=heap_alloc_new' w3 (.cells (hC E lb 1 cb va ln vc) 30)
 have X4:=X3.later ga
 obtain ⟨hb,ehb⟩:∃ hb,w3.heap.size=hb:=⟨_,rfl⟩
 obtain ⟨W4,eW4⟩:∃ W4,w3.alloc (.cells (hC E lb 1 cb va ln vc) 30)=W4:=⟨_,rfl⟩
 have hwb:w.heap.size<hb:=by
  have h1:=(X2.from hg0).since.size
  have h2:=hg3.size
  have h3:=X2.since.size
  simp only [World.size_alloc] at h2 h3
  omega
 rw [eW4] at ga hbx X4 ⊢
 rw [ehb] at hbx ⊢
 have hres:W4.heap[w.heap.size]?=some (.cells hZ 30 (0,0)):=by
  have g1:=grown_trans X2.since (grown_trans (World.grownBy_alloc w2 (.cells #[.slice wa wn wc,.slice pa pn pc] 73) none) (grown_trans hg3 ga))
  exact (g1.block _ (lt_of_block hs0) (by simp)).trans hs0
 have hH:HW w W4 T R (fmt48 4480) E [freeB 3776 704] (fun _=>[]):=⟨by rw [fmt48_len],M,B,D,[],X4,hsf⟩
 have hV:HvK W4 R w.heap.size (heapV E (.slice lb 1 cb) fun c=>.slice (va c) (ln c) (vc c)) E [freeB 3776 704] (fun _=>[]):=by
  have h1:HvIs W4 _ (heapV E (.slice lb 1 cb) fun c=>.slice (va c) (ln c) (vc c)) E [freeB 3776 704] (fun _=>[]):=⟨⟨_,_,rfl,hob.later ga,fun c hc=>(hol' c hc).later ga⟩⟩
  have h2:HW w _ T R (fmt48 4480) E [freeB 3776 704] (fun _=>[]):=⟨by rw [fmt48_len],M,B,D,[],(X2.from hg0).later (World.grownBy_alloc w2 (.cells #[.slice wa wn wc,.slice pa pn pc] 73) none),hsf⟩
  exact (h1.beside h2 (Nat.le_refl _)).mono h2.since.size
 have H0:PlW12 w hb T E (dS12 X O A N 0).1 (dS12 X O A N 0).2 W4:=⟨⟨R,lb,1,cb,va,ln,vc,hH,hV,hbx⟩,hres⟩
 clear hH hV hres hbx ga X4 X3 X2 hrt hne hv hob hol hol' hln hvl hfo hnw hg3 ehb eW4 hs0 hg0
 go_loopw [8] (fun i wr=>∃ k:Nat,k≤min n 25∧i=.int .i64 k∧PlW12 w hb T E (dS12 X O A N k).1 (dS12 X O A N k).2 wr) (fun i _=>25 - (intOf i).toNat)
 case atStart=>exact ⟨0,Nat.zero_le _,rfl,H0⟩
 case round =>
  obtain ⟨k,hk,rfl,Hk⟩:=hrel
  rename_i wr
  clear H0
  by_cases hlt:k<min n 25
  ·obtain ⟨R1,l1,n1,c1,va,ln,vc,hH,hV,hB⟩:=Hk.is
   have hR:=Hk.res
   have hwr:w.grownBy wr none:=hH.since
   obtain ⟨b,off,rfl,hbl,hcs⟩:=(hp.later hwr).cells (by omega)
   obtain ⟨q0,q1,q2,q3⟩:=hcs k (by omega)
   obtain ⟨l0,l1',l2,l3'⟩:=hp.lt k
   clear hcs
   have hkn:(k:Int)<(n:Int):=by omega
   have hk25:(k:Int)<25:=by omega
   obtain ⟨s,hs⟩:∃ s,dS12 X O A N k=s:=⟨_,rfl⟩
   have hS1:dS12 X O A N (k+1)=(dB s.1 (X k) (O k) (A k) (N k),dL s.1 s.2 (X k) (O k) (A k) (N k)):=by rw [← hs];rfl
   rw [hs] at hH hV
   have hcode:=fun (V:World) (hg:wr.grownBy V none)=>done12_any (x:=X k) (o:=O k) (a:=A k) (n:=N k) (hH.later hg) (hV.later hg) l0 l1' l2 l3'
   have href:=fun (V:World) (R2:Option Nat) (hR2:∀ g,R2=some g→g<V.heap.size) (hv2:HvK V R2 w.heap.size (heapV E (.slice l1 n1 c1) fun c=>.slice (va c) (ln c) (vc c)) E s.1 s.2) (hb2:w.heap.size≤V.heap.size)=>rdo11_any (x:=X k) (o:=O k) (a:=A k) (n:=N k) hH hR2 hv2 hb2 l0 l1' l2 l3'
   have hdc:∀ V:World,w.grownBy V none→V.cell? ⟨b,off+k*4,none⟩=some (.int .u8 (X k:Nat))∧V.cell? ⟨b,off+k*4+1,none⟩=some (.int .u8 (O k:Nat))∧V.cell? ⟨b,off+k*4+2,none⟩=some (.int .u8 (A k:Nat))∧V.cell? ⟨b,off+k*4+3,none⟩=some (.int .u16 (N k:Nat)):=fun V hg=>by
    obtain ⟨b',off',e,_,h⟩:=(hp.later hg).cells (by omega)
    injection e with e
    injection e with e1 e2
    subst e1 e2
    exact h k (by omega)
   obtain ⟨xk,ex⟩:∃ x,X k=x:=⟨_,rfl⟩
   obtain ⟨ok,eo⟩:∃ x,O k=x:=⟨_,rfl⟩
   obtain ⟨ak,ea⟩:∃ x,A k=x:=⟨_,rfl⟩
   obtain ⟨nk,en⟩:∃ x,N k=x:=⟨_,rfl⟩
   rw [ex,eo,ea,en] at hS1
   simp only [ex,eo,ea,en] at hcode
   simp only [ex,eo,ea,en] at href
   simp only [ex,eo,ea,en] at hdc
   have HDC:=Lib.hid hdc
   rw [ex] at q0
   rw [eo] at q1
   rw [ea] at q2
   rw [en] at q3
   obtain ⟨P,hP⟩:∃ P,dP s.1 xk nk=P:=⟨_,rfl⟩
   obtain ⟨Ee,hE⟩:∃ Ee,dE s.1 xk ak nk=Ee:=⟨_,rfl⟩
   simp only [hP,hE] at hcode
   simp only [hP,hE] at href
   have HS1:=Lib.hid hS1
   have eP:((P:Int) != (P:Int))=false:=by simp
   have eE:((Ee:Int) != (Ee:Int))=false:=by simp
   have hcode':∀ V:World,wr.grownBy V none→Calls Tryz.prog 27 #[.pointer (some ⟨T,0,none⟩),.agg (hC E l1 n1 c1 va ln vc),.agg #[.int .u8 xk,.int .u8 ok,.int .u8 ak,.int .u16 nk]] V fun e w'=>e=.returned (.tuple #[.int .u64 P,.int .i64 Ee])∧∃ R',HW w w' T R' (fmt48 4480) E (dB s.1 xk ok ak nk) (dL s.1 s.2 xk ok ak nk)∧Keep V R1 w' R':=fun V hg=>hcode V hg
   have href':∀ (V:World) (R2:Option Nat),(∀ g,R2=some g→g<V.heap.size)→HvK V R2 w.heap.size (heapV E (.slice l1 n1 c1) fun c=>.slice (va c) (ln c) (vc c)) E s.1 s.2→w.heap.size≤V.heap.size→Calls Tryz.prog 28 #[.agg (hC E l1 n1 c1 va ln vc),.agg #[.int .u8 xk,.int .u8 ok,.int .u8 ak,.int .u16 nk]] V fun e w'=>∃ v',e=.returned (.tuple #[v',.int .u64 P,.int .i64 Ee])∧HvK w' R2 w.heap.size v' E (dB s.1 xk ok ak nk) (dL s.1 s.2 xk ok ak nk)∧V.grownBy w' none:=fun V R2 q1 q2 q3=>href V R2 q1 q2 q3
   have HRF:=Lib.hid href'
   obtain ⟨⟨x0,x1,x2,x3,x4,x5,x6,x7,x8,x9⟩,_⟩:=ten_cells hB
   have HB:=Lib.hid hB
   have HR:=Lib.hid hR
   have HV:=Lib.hid hV
   clear href href' hB hR hV hS1 hs hP hE ex eo ea en hp hcode hdc
   go_wp2
   have HG:wr.grownBy wr.drew none:=grown_drew (grown_refl _ _)
   have B4:=(HG.block _ (lt_of_block HB.out) (by simp)).trans HB.out
   have HS:=Lib.hid (And.intro (at10_of B4) (HDC.out _ (grown_trans hwr HG)))
   obtain ⟨x0,x1,x2,x3,x4,x5,x6,x7,x8,x9⟩:=at10_of B4
   obtain ⟨q0,q1,q2,q3⟩:=HDC.out _ (grown_trans hwr HG)
   have HB4:=Lib.hid B4
   clear B4
   go_region_held3 (fun w'=>at10 hb E l1 n1 c1 va ln vc w'∧w'.cell? ⟨b,off+k*4,none⟩=some (.int .u8 xk)∧w'.cell? ⟨b,off+k*4+1,none⟩=some (.int .u8 ok)∧w'.cell? ⟨b,off+k*4+2,none⟩=some (.int .u8 ak)∧w'.cell? ⟨b,off+k*4+3,none⟩=some (.int .u16 nk)) (first|(with_reducible exact HS.out)) (first
    | (go_at_call 27;((with_reducible refine (hcode' _ HG).mono ?_);rintro e w5 ⟨rfl,R5,H5,K5⟩;have B5:=K5.far HB4.out (by decide) (by decide);replace HS:=Lib.hid (And.intro (at10_of B5) (HDC.out _ H5.since));have HB5:=Lib.hid B5;clear B5)))
   clear x0 x1 x2 x3 x4 x5 x6 x7 x8 x9 q0 q1 q2 q3
   go_wp2
   have V5:=(HV.out.later HG).step K5
   have R5b:=K5.far ((HG.block _ (lt_of_block HR.out) (by simp)).trans HR.out) (by decide) (by decide)
   have hrf:∀ V:World,w5.grownBy V none→Calls Tryz.prog 28 #[.agg (hC E l1 n1 c1 va ln vc),.agg #[.int .u8 xk,.int .u8 ok,.int .u8 ak,.int .u16 nk]] V _:=fun V hg=>HRF.out V R5 (fun g e=>Nat.lt_of_lt_of_le (H5.newR e) hg.size) (V5.later hg) (Nat.le_trans H5.since.size hg.size)
   have hcell:∀ {V:World},w5.grownBy V none→at10 hb E l1 n1 c1 va ln vc V∧V.cell? ⟨b,off+k*4,none⟩=some (.int .u8 xk)∧V.cell? ⟨b,off+k*4+1,none⟩=some (.int .u8 ok)∧V.cell? ⟨b,off+k*4+2,none⟩=some (.int .u8 ak)∧V.cell? ⟨b,off+k*4+3,none⟩=some (.int .u16 nk):=fun {V} hg=>⟨at10_of ((hg.block _ (lt_of_block HB5.out) (by simp)).trans HB5.out),HDC.out _ (grown_trans H5.since hg)⟩
   replace HG:w5.grownBy w5.drew none:=grown_drew (grown_refl _ _)
   obtain ⟨⟨x0,x1,x2,x3,x4,x5,x6,x7,x8,x9⟩,q0,q1,q2,q3⟩:=hcell HG
   have hz:=fun (V:World)=>World.grownBy_alloc V (.cells hZ 30) none
   have HD:w5.grownBy (w5.alloc (.cells hZ 30)).drew none:=grown_drew (hz w5)
   have KBD:(w5.alloc (.cells hZ 30)).drew.heap[w5.heap.size]?=some (.cells hZ 30 (0,0)):=heap_alloc_new' w5 _
   have HZ:=Lib.hid (hcell HD)
   replace HS:=Lib.hid (hcell HG)
   have HKD:=Lib.hid KBD
   have HV5:=Lib.hid V5
   have HRB:=Lib.hid R5b
   clear KBD V5 R5b
   go_region_held3 (fun w'=>at10 hb E l1 n1 c1 va ln vc w'∧w'.cell? ⟨b,off+k*4,none⟩=some (.int .u8 xk)∧w'.cell? ⟨b,off+k*4+1,none⟩=some (.int .u8 ok)∧w'.cell? ⟨b,off+k*4+2,none⟩=some (.int .u8 ak)∧w'.cell? ⟨b,off+k*4+3,none⟩=some (.int .u16 nk)) (first|(with_reducible exact hcell HG)|(with_reducible exact HZ.out)|(with_reducible exact HS.out)) (first
    | (go_at_call 28;((with_reducible first|refine (hrf _ HG).mono ?_|refine (hrf _ HD).mono ?_);rintro e w6 ⟨v6,rfl,V6,hg6⟩;obtain ⟨l6,n6,c6,va6,ln6,vc6,hv6,_⟩:=V6.lie;subst hv6;unfold heapV;(first
      | ((with_reducible replace HG:=grown_trans HG hg6);have KN:=heap_alloc_new' w6 (.cells hZ 30);replace HZ:=Lib.hid (hcell (grown_trans HG (hz w6)));replace HS:=Lib.hid (hcell (grown_trans HG (World.grownBy_alloc w6 (.cells (hC E l6 n6 c6 va6 ln6 vc6) 30) none)));obtain ⟨⟨p0,p1,p2,p3,p4,p5,p6,p7,p8,p9⟩,pf⟩:=ten_cells KN;have pf0:=pf 0 (by decide);have pf1:=pf 1 (by decide);have pf2:=pf 2 (by decide);have pf3:=pf 3 (by decide);have pf4:=pf 4 (by decide);have pf5:=pf 5 (by decide);have pf6:=pf 6 (by decide);have pf7:=pf 7 (by decide);have pf8:=pf 8 (by decide);have pf9:=pf 9 (by decide);clear pf)
      | ((with_reducible replace HG:=grown_trans HD hg6);have KB:=(hg6.block _ (lt_of_block HKD.out) (by simp)).trans HKD.out;have HKB:=Nat.le_refl w5.heap.size;have HP:=put10_of (E:=E) (la:=l6) (n:=n6) (c:=c6) (va:=va6) (ln:=ln6) (vc:=vc6) KB;unfold put10 at HP;replace HS:=Lib.hid (hcell (grown_new (grown_trans (grown_any HG _) HP.2) HKB));clear HP;obtain ⟨⟨p0,p1,p2,p3,p4,p5,p6,p7,p8,p9⟩,pf⟩:=ten_cells KB;have pf0:=pf 0 (by decide);have pf1:=pf 1 (by decide);have pf2:=pf 2 (by decide);have pf3:=pf 3 (by decide);have pf4:=pf 4 (by decide);have pf5:=pf 5 (by decide);have pf6:=pf 6 (by decide);have pf7:=pf 7 (by decide);have pf8:=pf 8 (by decide);have pf9:=pf 9 (by decide);clear pf));obtain ⟨⟨x0,x1,x2,x3,x4,x5,x6,x7,x8,x9⟩,q0,q1,q2,q3⟩:=hcell HG)))
   all_goals
    first
     | (obtain ⟨P9,Q9⟩:=put10_of (E:=E) (la:=l6) (n:=n6) (c:=c6) (va:=va6) (ln:=ln6) (vc:=vc6) (show w6.heap[w5.heap.size]?=some (.cells hZ 30 (0,0)) from KB);obtain ⟨W9,hW9⟩:∃ W9,put10 w6 w5.heap.size E l6 n6 c6 va6 ln6 vc6=W9:=⟨_,rfl⟩;unfold put10 at hW9 P9 Q9;rw [hW9] at P9 Q9 ⊢;have G9:=grown_new (grown_trans (grown_any HG _) Q9) HKB;have V9:=V6.other KB (by decide) (by decide) Q9;clear hW9 Q9 KB)
     | (have P9:=heap_alloc_new' w6 (.cells (hC E l6 n6 c6 va6 ln6 vc6) 30);have G9:=grown_trans HG (World.grownBy_alloc w6 (.cells (hC E l6 n6 c6 va6 ln6 vc6) 30) none);have V9:=V6.later (World.grownBy_alloc w6 (.cells (hC E l6 n6 c6 va6 ln6 vc6) 30) none);obtain ⟨W9,hW9⟩:∃ W9,w6.alloc (.cells (hC E l6 n6 c6 va6 ln6 vc6) 30)=W9:=⟨_,rfl⟩;rw [hW9] at P9 G9 V9 ⊢;clear hW9 KN)
    have B9:=(G9.block _ (lt_of_block HB5.out) (by simp)).trans HB5.out
    have R9:=(G9.block _ (lt_of_block HRB.out) (by simp)).trans HRB.out
    have H9:=H5.later G9
    have hn9:=lt_of_block HB5.out
    clear x0 x1 x2 x3 x4 x5 x6 x7 x8 x9 q0 q1 q2 q3 p0 p1 p2 p3 p4 p5 p6 p7 p8 p9 pf0 pf1 pf2 pf3 pf4 pf5 pf6 pf7 pf8 pf9
    obtain ⟨⟨y0,y1,y2,y3,y4,y5,y6,y7,y8,y9⟩,_⟩:=ten_cells P9
    obtain ⟨⟨x0,x1,x2,x3,x4,x5,x6,x7,x8,x9⟩,rf⟩:=ten_cells B9
    have rf0:=rf 0 (by decide)
    have rf1:=rf 1 (by decide)
    have rf2:=rf 2 (by decide)
    have rf3:=rf 3 (by decide)
    have rf4:=rf 4 (by decide)
    have rf5:=rf 5 (by decide)
    have rf6:=rf 6 (by decide)
    have rf7:=rf 7 (by decide)
    have rf8:=rf 8 (by decide)
    have rf9:=rf 9 (by decide)
    have HB9:=Lib.hid B9
    clear rf B9
    go_wp2
    obtain ⟨P8,Q8⟩:=ten_put (y0:=.int .u64 E) (y1:=.slice l6 n6 c6) (y2:=.slice (va6 0) (ln6 0) (vc6 0)) (y3:=.slice (va6 1) (ln6 1) (vc6 1)) (y4:=.slice (va6 2) (ln6 2) (vc6 2)) (y5:=.slice (va6 3) (ln6 3) (vc6 3)) (y6:=.slice (va6 4) (ln6 4) (vc6 4)) (y7:=.slice (va6 5) (ln6 5) (vc6 5)) (y8:=.slice (va6 6) (ln6 6) (vc6 6)) (y9:=.slice (va6 7) (ln6 7) (vc6 7)) HB9.out
    have R8b:=(Q8.block _ (lt_of_block R9) (fun e=>by injection e with e;omega)).trans R9
    have H8:=H9.other HB9.out (by decide) (by decide) (by decide) (by decide) (by omega) Q8
    have V8:=V9.other HB9.out (by decide) (by decide) Q8
    go_roundw
    case rel=>exact ⟨k+1,by omega,by go_num,⟨⟨R5,l6,n6,c6,va6,ln6,vc6,by rw [HS1.out];exact H8,by rw [HS1.out];exact V8,P8⟩,R8b⟩⟩
    case measure=>simp [intOf];omega
  ·obtain ⟨m,hm⟩:∃ m,min n 25=m:=⟨_,rfl⟩
   rw [hm] at hk hlt ⊢
   obtain rfl:k=m:=by omega
   obtain ⟨R1,l1,n1,c1,va,ln,vc,hH,hV,hB⟩:=Hk.is
   have hR:=Hk.res
   clear Hk
   have hnb:¬ hb=w.heap.size:=by omega
   have hnb':¬ w.heap.size=hb:=by omega
   obtain ⟨⟨a0,a1,a2,a3,a4,a5,a6,a7,a8,a9⟩,_⟩:=ten_cells hB
   obtain ⟨⟨z0,z1,z2,z3,z4,z5,z6,z7,z8,z9⟩,rf⟩:=ten_cells hR
   have rf0:=rf 0 (by decide)
   have rf1:=rf 1 (by decide)
   have rf2:=rf 2 (by decide)
   have rf3:=rf 3 (by decide)
   have rf4:=rf 4 (by decide)
   have rf5:=rf 5 (by decide)
   have rf6:=rf 6 (by decide)
   have rf7:=rf 7 (by decide)
   have rf8:=rf 8 (by decide)
   have rf9:=rf 9 (by decide)
   have HM:=Lib.hid hm
   have HH:=Lib.hid hH
   have HV:=Lib.hid hV
   have HR:=Lib.hid hR
   have hkd:¬ ((k:Int)<(n:Int)∧(k:Int)<25):=by omega
   have hpost:∀ W11:World,wr.grownBy W11 (some w.heap.size)→Done12 w (dS12 X O A N k).1 (dS12 X O A N k).2 (.returned (.tuple #[.pointer (some ⟨T,0,none⟩),heapV E (.slice l1 n1 c1) (fun c=>.slice (va c) (ln c) (vc c)),.bool true])) W11.drew:=fun W11 hq=>by
    have hE:=HE.out
    subst hE
    have h1:=grown_drew (grown_refl W11 none)
    exact ⟨T,R1,_,rfl,(HH.out.other HR.out (by decide) (by decide) (by decide) (by decide) (Nat.le_refl _) hq).later h1,(HV.out.other HR.out (by decide) (by decide) hq).later h1⟩
   have HPO:=Lib.hid hpost
   clear hpost hm hH hV hp hB hR rf
   by_cases hkn:(k:Int)<(n:Int)
   ·have hk25:¬ (k:Int)<25:=fun h=>hkd ⟨hkn,h⟩
    clear hkd
    go_wp2
    go_region_held3 (fun w'=>w'.cell? ⟨hb,0,none⟩=some (.int .u64 E)∧w'.cell? ⟨hb,1,none⟩=some (.slice l1 n1 c1)∧w'.cell? ⟨hb,2,none⟩=some (.slice (va 0) (ln 0) (vc 0))∧w'.cell? ⟨hb,3,none⟩=some (.slice (va 1) (ln 1) (vc 1))∧w'.cell? ⟨hb,4,none⟩=some (.slice (va 2) (ln 2) (vc 2))∧w'.cell? ⟨hb,5,none⟩=some (.slice (va 3) (ln 3) (vc 3))∧w'.cell? ⟨hb,6,none⟩=some (.slice (va 4) (ln 4) (vc 4))∧w'.cell? ⟨hb,7,none⟩=some (.slice (va 5) (ln 5) (vc 5))∧w'.cell? ⟨hb,8,none⟩=some (.slice (va 6) (ln 6) (vc 6))∧w'.cell? ⟨hb,9,none⟩=some (.slice (va 7) (ln 7) (vc 7))) (go_keep) (fail)
    obtain ⟨P11,Q11⟩:=ten_put (y0:=.int .u64 E) (y1:=.slice l1 n1 c1) (y2:=.slice (va 0) (ln 0) (vc 0)) (y3:=.slice (va 1) (ln 1) (vc 1)) (y4:=.slice (va 2) (ln 2) (vc 2)) (y5:=.slice (va 3) (ln 3) (vc 3)) (y6:=.slice (va 4) (ln 4) (vc 4)) (y7:=.slice (va 5) (ln 5) (vc 5)) (y8:=.slice (va 6) (ln 6) (vc 6)) (y9:=.slice (va 7) (ln 7) (vc 7)) HR.out
    obtain ⟨W11,hW11⟩:∃ W11,((((((((((wr.setCell ⟨w.heap.size,0,none⟩ (.int .u64 E)).setCell ⟨w.heap.size,1,none⟩ (.slice l1 n1 c1)).setCell ⟨w.heap.size,2,none⟩ (.slice (va 0) (ln 0) (vc 0))).setCell ⟨w.heap.size,3,none⟩ (.slice (va 1) (ln 1) (vc 1))).setCell ⟨w.heap.size,4,none⟩ (.slice (va 2) (ln 2) (vc 2))).setCell ⟨w.heap.size,5,none⟩ (.slice (va 3) (ln 3) (vc 3))).setCell ⟨w.heap.size,6,none⟩ (.slice (va 4) (ln 4) (vc 4))).setCell ⟨w.heap.size,7,none⟩ (.slice (va 5) (ln 5) (vc 5))).setCell ⟨w.heap.size,8,none⟩ (.slice (va 6) (ln 6) (vc 6))).setCell ⟨w.heap.size,9,none⟩ (.slice (va 7) (ln 7) (vc 7)))=W11:=⟨_,rfl⟩
    rw [hW11] at P11 Q11 ⊢
    have hend:=HPO.out W11 Q11
    have hd11:W11.grownBy W11.drew none:=grown_drew (grown_refl _ none)
    have P12:=(hd11.block _ (lt_of_block P11) (by simp)).trans P11
    obtain ⟨⟨b0,b1,b2,b3,b4,b5,b6,b7,b8,b9⟩,_⟩:=ten_cells P12
    clear a0 a1 a2 a3 a4 a5 a6 a7 a8 a9 rf0 rf1 rf2 rf3 rf4 rf5 rf6 rf7 rf8 rf9 z0 z1 z2 z3 z4 z5 z6 z7 z8 z9 hW11
    go_wp2
    refine bodyPost_ret (v:=.tuple #[.pointer (some ⟨T,0,none⟩),heapV E (.slice l1 n1 c1) (fun c=>.slice (va c) (ln c) (vc c)),.bool true]) (by simp [results,Tryz.results9,go_sem,heapV,b0,b1,b2,b3,b4,b5,b6,b7,b8,b9]) rfl ?_
    rw [HM.out]
    exact hend
   ·clear hkd
    go_wp2
    go_region_held3 (fun w'=>w'.cell? ⟨hb,0,none⟩=some (.int .u64 E)∧w'.cell? ⟨hb,1,none⟩=some (.slice l1 n1 c1)∧w'.cell? ⟨hb,2,none⟩=some (.slice (va 0) (ln 0) (vc 0))∧w'.cell? ⟨hb,3,none⟩=some (.slice (va 1) (ln 1) (vc 1))∧w'.cell? ⟨hb,4,none⟩=some (.slice (va 2) (ln 2) (vc 2))∧w'.cell? ⟨hb,5,none⟩=some (.slice (va 3) (ln 3) (vc 3))∧w'.cell? ⟨hb,6,none⟩=some (.slice (va 4) (ln 4) (vc 4))∧w'.cell? ⟨hb,7,none⟩=some (.slice (va 5) (ln 5) (vc 5))∧w'.cell? ⟨hb,8,none⟩=some (.slice (va 6) (ln 6) (vc 6))∧w'.cell? ⟨hb,9,none⟩=some (.slice (va 7) (ln 7) (vc 7))) (go_keep) (fail)
    obtain ⟨P11,Q11⟩:=ten_put (y0:=.int .u64 E) (y1:=.slice l1 n1 c1) (y2:=.slice (va 0) (ln 0) (vc 0)) (y3:=.slice (va 1) (ln 1) (vc 1)) (y4:=.slice (va 2) (ln 2) (vc 2)) (y5:=.slice (va 3) (ln 3) (vc 3)) (y6:=.slice (va 4) (ln 4) (vc 4)) (y7:=.slice (va 5) (ln 5) (vc 5)) (y8:=.slice (va 6) (ln 6) (vc 6)) (y9:=.slice (va 7) (ln 7) (vc 7)) HR.out
    obtain ⟨W11,hW11⟩:∃ W11,((((((((((wr.setCell ⟨w.heap.size,0,none⟩ (.int .u64 E)).setCell ⟨w.heap.size,1,none⟩ (.slice l1 n1 c1)).setCell ⟨w.heap.size,2,none⟩ (.slice (va 0) (ln 0) (vc 0))).setCell ⟨w.heap.size,3,none⟩ (.slice (va 1) (ln 1) (vc 1))).setCell ⟨w.heap.size,4,none⟩ (.slice (va 2) (ln 2) (vc 2))).setCell ⟨w.heap.size,5,none⟩ (.slice (va 3) (ln 3) (vc 3))).setCell ⟨w.heap.size,6,none⟩ (.slice (va 4) (ln 4) (vc 4))).setCell ⟨w.heap.size,7,none⟩ (.slice (va 5) (ln 5) (vc 5))).setCell ⟨w.heap.size,8,none⟩ (.slice (va 6) (ln 6) (vc 6))).setCell ⟨w.heap.size,9,none⟩ (.slice (va 7) (ln 7) (vc 7)))=W11:=⟨_,rfl⟩
    rw [hW11] at P11 Q11 ⊢
    have hend:=HPO.out W11 Q11
    have hd11:W11.grownBy W11.drew none:=grown_drew (grown_refl _ none)
    have P12:=(hd11.block _ (lt_of_block P11) (by simp)).trans P11
    obtain ⟨⟨b0,b1,b2,b3,b4,b5,b6,b7,b8,b9⟩,_⟩:=ten_cells P12
    clear a0 a1 a2 a3 a4 a5 a6 a7 a8 a9 rf0 rf1 rf2 rf3 rf4 rf5 rf6 rf7 rf8 rf9 z0 z1 z2 z3 z4 z5 z6 z7 z8 z9 hW11
    go_wp2
    refine bodyPost_ret (v:=.tuple #[.pointer (some ⟨T,0,none⟩),heapV E (.slice l1 n1 c1) (fun c=>.slice (va c) (ln c) (vc c)),.bool true]) (by simp [results,Tryz.results9,go_sem,heapV,b0,b1,b2,b3,b4,b5,b6,b7,b8,b9]) rfl ?_
    rw [HM.out]
    exact hend
end Go.Proofs.YtcbdbflgfhbikaaGreat
