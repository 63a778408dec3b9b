/-
  Texts of one layer, one behind the other: memory, contracts of the functions, and what follows of them.
  Conditions: as each theorem says.
-/
import Derived.Test.YtcbdbflgfhbikaaGreatRelN
import Derived.Test.YtcbdbflgfhbikaaGreatLCal
import Derived.Test.YtcbdbflgfhbikaaGreatLClb
set_option linter.unusedVariables false
set_option linter.unusedSimpArgs false
namespace Go.Proofs.YtcbdbflgfhbikaaGreat
open Go.RowKit
set_option maxRecDepth 100000
def dP (bs:List Blk) (x n:Nat):Nat:=if x % 4<2 then tkP bs (n % 300) 16 else 0
def dE (bs:List Blk) (x a n:Nat):Nat:=if x % 4<2 then tkE bs (n % 300) 16 else if x % 4=2 then frE bs (payB bs a) else ctE bs (payB bs a) (16*(n % 20))
def dB (bs:List Blk) (x o a n:Nat):List Blk:=if x % 4<2 then tkB bs (o % 9) (n % 300) 16 else if x % 4=2 then frB bs (payB bs a) else ctB bs (payB bs a) (16*(n % 20))
def dL (bs:List Blk) (L:Nat→List Nat) (x o a n:Nat):Nat→List Nat:=if x % 4<2 then tkL bs L (o % 9) (n % 300) 16 else if x % 4=2 then frL bs L (payB bs a) else L
section
variable {w0 w w':World} {T:Nat} {R:Option Nat} {ws:List Nat} {E base x o a n:Nat} {bs:List Blk} {L:Nat→List Nat} {v:Value}
set_option maxHeartbeats 8000000 in
theorem rdo11_any {V0:World} {R0:Option Nat} (h:HW w0 w T R ws E bs L) (hR:∀ g,R0=some g→g<V0.heap.size) (hv:HvK V0 R0 base v E bs L) (hb:base≤V0.heap.size) (hx:x<256) (ho:o<256) (ha:a<256) (hn:n<65536) :
  Calls Tryz.prog 28 #[v,.agg #[.int .u8 x,.int .u8 o,.int .u8 a,.int .u16 n]] V0 fun e w'=>∃ v',e=.returned (.tuple #[v',.int .u64 (dP bs x n:Nat),.int .i64 (dE bs x a n:Nat)])∧HvK w' R0 base v' E (dB bs x o a n) (dL bs L x o a n)∧V0.grownBy w' none:=by
 have e4:(x:Int).tmod 4=((x % 4:Nat):Int):=by rw [Int.tmod_eq_emod_of_nonneg (by omega)];omega
 have e9:(o:Int).tmod 9=((o % 9:Nat):Int):=by rw [Int.tmod_eq_emod_of_nonneg (by omega)];omega
 have e300:(n:Int).tmod 300=((n % 300:Nat):Int):=by rw [Int.tmod_eq_emod_of_nonneg (by omega)];omega
 have e20:(n:Int).tmod 20=((n % 20:Nat):Int):=by rw [Int.tmod_eq_emod_of_nonneg (by omega)];omega
 have b9:o % 9<9:=Nat.mod_lt _ (by decide)
 have b300:n % 300<300:=Nat.mod_lt _ (by decide)
 have b20:n % 20<20:=Nat.mod_lt _ (by decide)
 have hpay:=fun (V:World) (hg:V0.grownBy V none)=>rpayload10_any (hv.later hg).is (by have:=hw_few600 h;omega) (hw_bounds h) a (by omega)
 have hRV:∀ V:World,V0.grownBy V none→∀ g,R0=some g→g<V.heap.size:=fun V hg g e=>Nat.lt_of_lt_of_le (hR g e) hg.size
 have htk:=fun (V:World) (hg:V0.grownBy V none)=>tk_ref h (hRV V hg) (hv.later hg) (Nat.le_trans hb hg.size) (n:=n % 300) (a:=16) (owner:=o % 9) (.inl rfl) (by omega) (by omega)
 have hfr:=fun (V:World) (hg:V0.grownBy V none)=>fr_ref h (hRV V hg) (hv.later hg) (Nat.le_trans hb hg.size) (payB bs a)
 have hct:=fun (V:World) (hg:V0.grownBy V none)=>ct_ref h (hRV V hg) (hv.later hg) (Nat.le_trans hb hg.size) (payB bs a) (16*(n % 20)) (by omega)
 obtain ⟨la,n',c,va,ln,vc,rfl,_⟩:=hv.lie
 unfold dP dE dB dL
 obtain ⟨o9,eo9⟩:∃ o9,o % 9=o9:=⟨_,rfl⟩
 obtain ⟨n3,en3⟩:∃ n3,n % 300=n3:=⟨_,rfl⟩
 obtain ⟨n2,en2⟩:∃ n2,n % 20=n2:=⟨_,rfl⟩
 obtain ⟨x4,ex4⟩:∃ x4,x % 4=x4:=⟨_,rfl⟩
 rw [eo9] at e9 b9 htk ⊢
 rw [en3] at e300 b300 htk ⊢
 rw [en2] at e20 b20 hct ⊢
 rw [ex4] at e4 ⊢
 have hx4:x4<4:=by omega
 have w9:IntKind.i64.wrap (o9:Int)=(o9:Nat):=by rw [IntKind.wrap_i64];omega
 have w3:IntKind.u64.wrap (n3:Int)=(n3:Nat):=by rw [IntKind.wrap_u64];omega
 have w2:IntKind.u64.wrap (n2:Int)=(n2:Nat):=by rw [IntKind.wrap_u64];omega
 have wa:IntKind.i64.wrap (a:Int)=(a:Nat):=by rw [IntKind.wrap_i64];omega
 have w16:IntKind.u64.wrap (16*(n2:Int))=((16*n2:Nat):Int):=by rw [IntKind.wrap_u64];omega
 obtain ⟨k16,ek16⟩:∃ k16,16*n2=k16:=⟨_,rfl⟩
 rw [ek16] at w16 hct ⊢
 obtain ⟨P,hP⟩:∃ P,payB bs a=P:=⟨_,rfl⟩
 rw [hP] at hpay hfr hct ⊢
 obtain ⟨tp,htp⟩:∃ tp,tkP bs n3 16=tp:=⟨_,rfl⟩
 obtain ⟨te,hte⟩:∃ te,tkE bs n3 16=te:=⟨_,rfl⟩
 obtain ⟨fe,hfe⟩:∃ fe,frE bs P=fe:=⟨_,rfl⟩
 obtain ⟨ce,hce⟩:∃ ce,ctE bs P k16=ce:=⟨_,rfl⟩
 rw [htp,hte] at htk ⊢
 rw [hfe] at hfr ⊢
 rw [hce] at hct ⊢
 have hpay':∀ V:World,V0.grownBy V none→Calls Tryz.prog 13 #[.agg (hC E la n' c va ln vc),.int .i64 a] V fun e w'=>e=.returned (.int .u64 P)∧V.grownBy w' none:=fun V hg=>hpay V hg
 have htk':∀ V:World,V0.grownBy V none→Calls Tryz.prog 36 #[.agg (hC E la n' c va ln vc),.int .i64 o9,.int .u64 n3,.int .u64 16] V fun e w'=>∃ v',e=.returned (.tuple #[v',.int .u64 (tp:Nat),.int .i64 (te:Nat)])∧HvK w' R0 base v' E (tkB bs o9 n3 16) (tkL bs L o9 n3 16)∧V.grownBy w' none:=htk
 have hfr':∀ V:World,V0.grownBy V none→Calls Tryz.prog 37 #[.agg (hC E la n' c va ln vc),.int .u64 P] V fun e w'=>∃ v',e=.returned (.tuple #[v',.int .i64 (fe:Nat)])∧HvK w' R0 base v' E (frB bs P) (frL bs L P)∧V.grownBy w' none:=hfr
 have hct':∀ V:World,V0.grownBy V none→Calls Tryz.prog 35 #[.agg (hC E la n' c va ln vc),.int .u64 P,.int .u64 k16] V fun e w'=>∃ v',e=.returned (.tuple #[v',.int .i64 (ce:Nat)])∧HvK w' R0 base v' E (ctB bs P k16) L∧V.grownBy w' none:=hct
 have ga:=grown_trans (World.grownBy_alloc V0 (.cells (hC E la n' c va ln vc) 30) none) (grown_trans (World.grownBy_alloc (V0.alloc (.cells (hC E la n' c va ln vc) 30)) (.cells #[.int .u8 x,.int .u8 o,.int .u8 a,.int .u16 n] 67) none) (World.grownBy_alloc _ (.cells hZ 30) none))
 have h0:=heap_alloc_new' (V0.alloc (.cells (hC E la n' c va ln vc) 30)) (.cells #[.int .u8 x,.int .u8 o,.int .u8 a,.int .u16 n] 67)
 have h1:((V0.alloc (.cells (hC E la n' c va ln vc) 30)).alloc (.cells #[.int .u8 x,.int .u8 o,.int .u8 a,.int .u16 n] 67)).heap[V0.heap.size]?=some (.cells (hC E la n' c va ln vc) 30 (0,0)):=(Below.heap_alloc _ _ _ (by simp)).trans (heap_alloc_new' V0 _)
 have h2:=heap_alloc_new' ((V0.alloc (.cells (hC E la n' c va ln vc) 30)).alloc (.cells #[.int .u8 x,.int .u8 o,.int .u8 a,.int .u16 n] 67)) (.cells hZ 30)
 rw [World.size_alloc] at h0
 rw [World.size_alloc,World.size_alloc] at h2
 have h0':=(Below.heap_alloc _ (.cells hZ 30) _ (lt_of_block h0)).trans h0
 have h1':=(Below.heap_alloc _ (.cells hZ 30) _ (lt_of_block h1)).trans h1
 have hnb:V0.heap.size≤V0.heap.size+1+1:=by omega
 unfold heapV
 clear hpay hP htp hte hfe hce ek16 eo9 en3 en2 ex4 b9 b300 b20 h hv htk hfr hct hRV
 rcases (show x4=0∨x4=1∨x4=2∨x4=3 by omega) with rfl|rfl|rfl|rfl
 ·clear hx4 h0 h1
  simp only [Nat.reduceLT,Nat.reduceEqDiff,if_true,if_false,Int.cast_ofNat_Int,show ((0:Nat):Int)=0 from rfl,show ((1:Nat):Int)=1 from rfl,show ((2:Nat):Int)=2 from rfl,show ((3:Nat):Int)=3 from rfl] at e4 ⊢
  go_enter Tryz.func28,Tryz.ntmps28
  go_wp2_with (first
   | (go_at_call 36;((with_reducible refine (htk' _ ga).mono ?_);rintro e w3 ⟨v3,rfl,H3,hg3⟩;obtain ⟨l3,n3',c3,va3,ln3,vc3,hv3,_⟩:=H3.lie;subst hv3;unfold heapV;have h23:=(hg3.block _ (lt_of_block h2) (by simp)).trans h2;obtain ⟨⟨r0,r1,r2,r3,r4,r5,r6,r7,r8,r9⟩,rf⟩:=ten_cells h23;have rf0:=rf 0 (by decide);have rf1:=rf 1 (by decide);have rf2:=rf 2 (by decide);have rf3:=rf 3 (by decide);have rf4:=rf 4 (by decide);have rf5:=rf 5 (by decide);have rf6:=rf 6 (by decide);have rf7:=rf 7 (by decide);have rf8:=rf 8 (by decide);have rf9:=rf 9 (by decide);clear rf)))
  obtain ⟨P11,Q11⟩:=put10_of (E:=E) (la:=l3) (n:=n3') (c:=c3) (va:=va3) (ln:=ln3) (vc:=vc3) h23
  obtain ⟨W11,hW11⟩:∃ W11,put10 w3 (V0.heap.size+1+1) E l3 n3' c3 va3 ln3 vc3=W11:=⟨_,rfl⟩
  unfold put10 at hW11 P11 Q11
  rw [hW11] at P11 Q11 ⊢
  obtain ⟨⟨b0,b1,b2,b3,b4,b5,b6,b7,b8,b9⟩,_⟩:=ten_cells P11
  refine bodyPost_ret (v:=.tuple #[heapV E (.slice l3 n3' c3) (fun c=>.slice (va3 c) (ln3 c) (vc3 c)),.int .u64 tp,.int .i64 te]) (by simp [results,Tryz.results28,go_sem,heapV,b0,b1,b2,b3,b4,b5,b6,b7,b8,b9]) rfl ?_
  exact ⟨_,rfl,H3.other h23 (by decide) (by decide) Q11,grown_new (grown_trans (grown_any (grown_trans ga hg3) _) Q11) hnb⟩
 ·clear hx4 h0 h1
  simp only [Nat.reduceLT,Nat.reduceEqDiff,if_true,if_false,Int.cast_ofNat_Int,show ((0:Nat):Int)=0 from rfl,show ((1:Nat):Int)=1 from rfl,show ((2:Nat):Int)=2 from rfl,show ((3:Nat):Int)=3 from rfl] at e4 ⊢
  go_enter Tryz.func28,Tryz.ntmps28
  go_wp2_with (first
   | (go_at_call 36;((with_reducible refine (htk' _ ga).mono ?_);rintro e w3 ⟨v3,rfl,H3,hg3⟩;obtain ⟨l3,n3',c3,va3,ln3,vc3,hv3,_⟩:=H3.lie;subst hv3;unfold heapV;have h23:=(hg3.block _ (lt_of_block h2) (by simp)).trans h2;obtain ⟨⟨r0,r1,r2,r3,r4,r5,r6,r7,r8,r9⟩,rf⟩:=ten_cells h23;have rf0:=rf 0 (by decide);have rf1:=rf 1 (by decide);have rf2:=rf 2 (by decide);have rf3:=rf 3 (by decide);have rf4:=rf 4 (by decide);have rf5:=rf 5 (by decide);have rf6:=rf 6 (by decide);have rf7:=rf 7 (by decide);have rf8:=rf 8 (by decide);have rf9:=rf 9 (by decide);clear rf)))
  obtain ⟨P11,Q11⟩:=put10_of (E:=E) (la:=l3) (n:=n3') (c:=c3) (va:=va3) (ln:=ln3) (vc:=vc3) h23
  obtain ⟨W11,hW11⟩:∃ W11,put10 w3 (V0.heap.size+1+1) E l3 n3' c3 va3 ln3 vc3=W11:=⟨_,rfl⟩
  unfold put10 at hW11 P11 Q11
  rw [hW11] at P11 Q11 ⊢
  obtain ⟨⟨b0,b1,b2,b3,b4,b5,b6,b7,b8,b9⟩,_⟩:=ten_cells P11
  refine bodyPost_ret (v:=.tuple #[heapV E (.slice l3 n3' c3) (fun c=>.slice (va3 c) (ln3 c) (vc3 c)),.int .u64 tp,.int .i64 te]) (by simp [results,Tryz.results28,go_sem,heapV,b0,b1,b2,b3,b4,b5,b6,b7,b8,b9]) rfl ?_
  exact ⟨_,rfl,H3.other h23 (by decide) (by decide) Q11,grown_new (grown_trans (grown_any (grown_trans ga hg3) _) Q11) hnb⟩
 ·clear hx4 h0 h1
  simp only [Nat.reduceLT,Nat.reduceEqDiff,if_true,if_false,Int.cast_ofNat_Int,show ((0:Nat):Int)=0 from rfl,show ((1:Nat):Int)=1 from rfl,show ((2:Nat):Int)=2 from rfl,show ((3:Nat):Int)=3 from rfl] at e4 ⊢
  go_enter Tryz.func28,Tryz.ntmps28
  go_wp2
  obtain ⟨W1,hW1⟩:∃ W1,((V0.alloc (.cells (hC E la n' c va ln vc) 30)).alloc (.cells #[.int .u8 x,.int .u8 o,.int .u8 a,.int .u16 n] 67)).alloc (.cells hZ 30)=W1:=⟨_,rfl⟩
  rw [hW1] at ga h0' h1' h2 ⊢
  have hcell:∀ {V:World},W1.grownBy V none→at10 V0.heap.size E la n' c va ln vc V∧V.cell? ⟨V0.heap.size+1,2,none⟩=some (.int .u8 a)∧V.cell? ⟨V0.heap.size+1,3,none⟩=some (.int .u16 n):=fun {V} hg=>by
   have q0:=(hg.block _ (lt_of_block h0') (by simp)).trans h0'
   exact ⟨at10_of ((hg.block _ (lt_of_block h1') (by simp)).trans h1'),by simp [World.cell?,q0],by simp [World.cell?,q0]⟩
  have HG:W1.grownBy W1.drew none:=grown_drew (grown_refl _ _)
  obtain ⟨⟨a0,a1,a2,a3,a4,a5,a6,a7,a8,a9⟩,d2,d3⟩:=hcell HG
  have hz:=fun (V:World)=>World.grownBy_alloc V (.cells hZ 30) none
  have HD:W1.grownBy (W1.alloc (.cells hZ 30)).drew none:=grown_drew (hz W1)
  have KBD:(W1.alloc (.cells hZ 30)).drew.heap[W1.heap.size]?=some (.cells hZ 30 (0,0)):=heap_alloc_new' W1 _
  have HZ:=Lib.hid (hcell HD)
  have HS:=Lib.hid (hcell HG)
  have HKD:=Lib.hid KBD
  clear KBD
  go_region_held3 (fun w'=>at10 V0.heap.size E la n' c va ln vc w'∧w'.cell? ⟨V0.heap.size+1,2,none⟩=some (.int .u8 a)∧w'.cell? ⟨V0.heap.size+1,3,none⟩=some (.int .u16 n)) (first|(with_reducible exact hcell HG)|(with_reducible exact HZ.out)|(with_reducible exact HS.out)) (first
   | (go_at_call 13;((with_reducible first|refine (hpay' _ (grown_trans ga HG)).mono ?_|refine (hpay' _ (grown_trans ga HD)).mono ?_);rintro e w2 ⟨rfl,hg2⟩;(first|(with_reducible replace HG:=grown_trans HG hg2)|((with_reducible replace HG:=grown_trans HD hg2);have KB:=(hg2.block _ (lt_of_block HKD.out) (by simp)).trans HKD.out;have HKB:=Nat.le_refl W1.heap.size));replace HZ:=Lib.hid (hcell (grown_trans HG (hz w2)));obtain ⟨⟨a0,a1,a2,a3,a4,a5,a6,a7,a8,a9⟩,d2,d3⟩:=hcell HG))
   | (go_at_call 37;((with_reducible first|refine (hfr' _ (grown_trans ga HG)).mono ?_|refine (hfr' _ (grown_trans ga (grown_trans HG (hz w2)))).mono ?_);rintro e w3 ⟨v3,rfl,H3,hg3⟩;obtain ⟨l3,n3',c3,va3,ln3,vc3,hv3,_⟩:=H3.lie;subst hv3;unfold heapV;(first
     | ((with_reducible replace HG:=grown_trans HG hg3);first
      | (replace KB:=(hg3.block _ (lt_of_block KB) (by simp)).trans KB;have HP:=put10_of (E:=E) (la:=l3) (n:=n3') (c:=c3) (va:=va3) (ln:=ln3) (vc:=vc3) KB;unfold put10 at HP;have HS:=Lib.hid (hcell (grown_new (grown_trans (grown_any HG _) HP.2) HKB));clear HP;obtain ⟨⟨p0,p1,p2,p3,p4,p5,p6,p7,p8,p9⟩,pf⟩:=ten_cells KB;have pf0:=pf 0 (by decide);have pf1:=pf 1 (by decide);have pf2:=pf 2 (by decide);have pf3:=pf 3 (by decide);have pf4:=pf 4 (by decide);have pf5:=pf 5 (by decide);have pf6:=pf 6 (by decide);have pf7:=pf 7 (by decide);have pf8:=pf 8 (by decide);have pf9:=pf 9 (by decide);clear pf)
      | (have KN:=heap_alloc_new' w3 (.cells hZ 30);replace HZ:=Lib.hid (hcell (grown_trans HG (hz w3)));replace HS:=Lib.hid (hcell (grown_trans HG (World.grownBy_alloc w3 (.cells (hC E l3 n3' c3 va3 ln3 vc3) 30) none)));obtain ⟨⟨p0,p1,p2,p3,p4,p5,p6,p7,p8,p9⟩,pf⟩:=ten_cells KN;have pf0:=pf 0 (by decide);have pf1:=pf 1 (by decide);have pf2:=pf 2 (by decide);have pf3:=pf 3 (by decide);have pf4:=pf 4 (by decide);have pf5:=pf 5 (by decide);have pf6:=pf 6 (by decide);have pf7:=pf 7 (by decide);have pf8:=pf 8 (by decide);have pf9:=pf 9 (by decide);clear pf))
     | (have HKB:=HG.size;(with_reducible replace HG:=grown_trans (grown_trans HG (hz w2)) hg3);have KB:=(hg3.block _ (lt_of_block (heap_alloc_new' w2 (.cells hZ 30))) (by simp)).trans (heap_alloc_new' w2 _);have HP:=put10_of (E:=E) (la:=l3) (n:=n3') (c:=c3) (va:=va3) (ln:=ln3) (vc:=vc3) KB;unfold put10 at HP;have HS:=Lib.hid (hcell (grown_new (grown_trans (grown_any HG _) HP.2) HKB));clear HP;obtain ⟨⟨p0,p1,p2,p3,p4,p5,p6,p7,p8,p9⟩,pf⟩:=ten_cells KB;have pf0:=pf 0 (by decide);have pf1:=pf 1 (by decide);have pf2:=pf 2 (by decide);have pf3:=pf 3 (by decide);have pf4:=pf 4 (by decide);have pf5:=pf 5 (by decide);have pf6:=pf 6 (by decide);have pf7:=pf 7 (by decide);have pf8:=pf 8 (by decide);have pf9:=pf 9 (by decide);clear pf));obtain ⟨⟨a0,a1,a2,a3,a4,a5,a6,a7,a8,a9⟩,d2,d3⟩:=hcell HG)))
  all_goals
   first
    | (obtain ⟨P9,Q9⟩:=put10_of (E:=E) (la:=l3) (n:=n3') (c:=c3) (va:=va3) (ln:=ln3) (vc:=vc3) (show w3.heap[w2.heap.size]?=some (.cells hZ 30 (0,0)) from KB);obtain ⟨W9,hW9⟩:∃ W9,put10 w3 w2.heap.size E l3 n3' c3 va3 ln3 vc3=W9:=⟨_,rfl⟩;unfold put10 at hW9 P9 Q9;rw [hW9] at P9 Q9 ⊢;have G9:=grown_new (grown_trans (grown_any HG _) Q9) HKB;have H9:=H3.other KB (by decide) (by decide) Q9;clear hW9 Q9 KB)
    | (obtain ⟨P9,Q9⟩:=put10_of (E:=E) (la:=l3) (n:=n3') (c:=c3) (va:=va3) (ln:=ln3) (vc:=vc3) (show w3.heap[W1.heap.size]?=some (.cells hZ 30 (0,0)) from KB);obtain ⟨W9,hW9⟩:∃ W9,put10 w3 W1.heap.size E l3 n3' c3 va3 ln3 vc3=W9:=⟨_,rfl⟩;unfold put10 at hW9 P9 Q9;rw [hW9] at P9 Q9 ⊢;have G9:=grown_new (grown_trans (grown_any HG _) Q9) HKB;have H9:=H3.other KB (by decide) (by decide) Q9;clear hW9 Q9 KB)
    | (have P9:=heap_alloc_new' w3 (.cells (hC E l3 n3' c3 va3 ln3 vc3) 30);have G9:=grown_trans HG (World.grownBy_alloc w3 (.cells (hC E l3 n3' c3 va3 ln3 vc3) 30) none);have H9:=H3.later (World.grownBy_alloc w3 (.cells (hC E l3 n3' c3 va3 ln3 vc3) 30) none);obtain ⟨W9,hW9⟩:∃ W9,w3.alloc (.cells (hC E l3 n3' c3 va3 ln3 vc3) 30)=W9:=⟨_,rfl⟩;rw [hW9] at P9 G9 H9 ⊢;clear hW9 KN)
   have h29:=(G9.block _ (lt_of_block h2) (by simp)).trans h2
   have nb9:=lt_of_block h2
   clear p0 p1 p2 p3 p4 p5 p6 p7 p8 p9 pf0 pf1 pf2 pf3 pf4 pf5 pf6 pf7 pf8 pf9 a0 a1 a2 a3 a4 a5 a6 a7 a8 a9 d2 d3
   obtain ⟨⟨c0,c1,c2,c3',c4,c5,c6,c7,c8,c9⟩,_⟩:=ten_cells P9
   obtain ⟨⟨r0,r1,r2,r3,r4,r5,r6,r7,r8,r9⟩,rf⟩:=ten_cells h29
   have rf0:=rf 0 (by decide)
   have rf1:=rf 1 (by decide)
   have rf2:=rf 2 (by decide)
   have rf3:=rf 3 (by decide)
   have rf4:=rf 4 (by decide)
   have rf5:=rf 5 (by decide)
   have rf6:=rf 6 (by decide)
   have rf7:=rf 7 (by decide)
   have rf8:=rf 8 (by decide)
   have rf9:=rf 9 (by decide)
   clear rf
   go_wp2
   obtain ⟨P11,Q11⟩:=put10_of (E:=E) (la:=l3) (n:=n3') (c:=c3) (va:=va3) (ln:=ln3) (vc:=vc3) h29
   obtain ⟨W11,hW11⟩:∃ W11,put10 W9 (V0.heap.size+1+1) E l3 n3' c3 va3 ln3 vc3=W11:=⟨_,rfl⟩
   unfold put10 at hW11 P11 Q11
   rw [hW11] at P11 Q11 ⊢
   obtain ⟨⟨b0,b1,b2,b3,b4,b5,b6,b7,b8,b9⟩,_⟩:=ten_cells P11
   refine bodyPost_ret (v:=.tuple #[heapV E (.slice l3 n3' c3) (fun c=>.slice (va3 c) (ln3 c) (vc3 c)),.int .u64 0,.int .i64 fe]) (by simp [results,Tryz.results28,go_sem,heapV,b0,b1,b2,b3,b4,b5,b6,b7,b8,b9]) rfl ?_
   exact ⟨_,rfl,H9.other h29 (by decide) (by decide) Q11,grown_new (grown_trans (grown_any (grown_trans ga G9) _) Q11) hnb⟩
 ·clear hx4 h0 h1
  simp only [Nat.reduceLT,Nat.reduceEqDiff,if_true,if_false,Int.cast_ofNat_Int,show ((0:Nat):Int)=0 from rfl,show ((1:Nat):Int)=1 from rfl,show ((2:Nat):Int)=2 from rfl,show ((3:Nat):Int)=3 from rfl] at e4 ⊢
  go_enter Tryz.func28,Tryz.ntmps28
  go_wp2
  obtain ⟨W1,hW1⟩:∃ W1,((V0.alloc (.cells (hC E la n' c va ln vc) 30)).alloc (.cells #[.int .u8 x,.int .u8 o,.int .u8 a,.int .u16 n] 67)).alloc (.cells hZ 30)=W1:=⟨_,rfl⟩
  rw [hW1] at ga h0' h1' h2 ⊢
  have hcell:∀ {V:World},W1.grownBy V none→at10 V0.heap.size E la n' c va ln vc V∧V.cell? ⟨V0.heap.size+1,2,none⟩=some (.int .u8 a)∧V.cell? ⟨V0.heap.size+1,3,none⟩=some (.int .u16 n):=fun {V} hg=>by
   have q0:=(hg.block _ (lt_of_block h0') (by simp)).trans h0'
   exact ⟨at10_of ((hg.block _ (lt_of_block h1') (by simp)).trans h1'),by simp [World.cell?,q0],by simp [World.cell?,q0]⟩
  have HG:W1.grownBy W1.drew none:=grown_drew (grown_refl _ _)
  obtain ⟨⟨a0,a1,a2,a3,a4,a5,a6,a7,a8,a9⟩,d2,d3⟩:=hcell HG
  have hz:=fun (V:World)=>World.grownBy_alloc V (.cells hZ 30) none
  have hz:=fun (V:World)=>World.grownBy_alloc V (.cells hZ 30) none
  have HD:W1.grownBy (W1.alloc (.cells hZ 30)).drew none:=grown_drew (hz W1)
  have KBD:(W1.alloc (.cells hZ 30)).drew.heap[W1.heap.size]?=some (.cells hZ 30 (0,0)):=heap_alloc_new' W1 _
  have HZ:=Lib.hid (hcell HD)
  have HS:=Lib.hid (hcell HG)
  have HKD:=Lib.hid KBD
  clear KBD
  go_region_held3 (fun w'=>at10 V0.heap.size E la n' c va ln vc w'∧w'.cell? ⟨V0.heap.size+1,2,none⟩=some (.int .u8 a)∧w'.cell? ⟨V0.heap.size+1,3,none⟩=some (.int .u16 n)) (first|(with_reducible exact hcell HG)|(with_reducible exact HZ.out)|(with_reducible exact HS.out)) (first
   | (go_at_call 13;((with_reducible first|refine (hpay' _ (grown_trans ga HG)).mono ?_|refine (hpay' _ (grown_trans ga HD)).mono ?_);rintro e w2 ⟨rfl,hg2⟩;(first|(with_reducible replace HG:=grown_trans HG hg2)|((with_reducible replace HG:=grown_trans HD hg2);have KB:=(hg2.block _ (lt_of_block HKD.out) (by simp)).trans HKD.out;have HKB:=Nat.le_refl W1.heap.size));replace HZ:=Lib.hid (hcell (grown_trans HG (hz w2)));obtain ⟨⟨a0,a1,a2,a3,a4,a5,a6,a7,a8,a9⟩,d2,d3⟩:=hcell HG))
   | (go_at_call 35;((with_reducible first|refine (hct' _ (grown_trans ga HG)).mono ?_|refine (hct' _ (grown_trans ga (grown_trans HG (hz w2)))).mono ?_);rintro e w3 ⟨v3,rfl,H3,hg3⟩;obtain ⟨l3,n3',c3,va3,ln3,vc3,hv3,_⟩:=H3.lie;subst hv3;unfold heapV;(first
     | ((with_reducible replace HG:=grown_trans HG hg3);first
      | (replace KB:=(hg3.block _ (lt_of_block KB) (by simp)).trans KB;have HP:=put10_of (E:=E) (la:=l3) (n:=n3') (c:=c3) (va:=va3) (ln:=ln3) (vc:=vc3) KB;unfold put10 at HP;have HS:=Lib.hid (hcell (grown_new (grown_trans (grown_any HG _) HP.2) HKB));clear HP;obtain ⟨⟨p0,p1,p2,p3,p4,p5,p6,p7,p8,p9⟩,pf⟩:=ten_cells KB;have pf0:=pf 0 (by decide);have pf1:=pf 1 (by decide);have pf2:=pf 2 (by decide);have pf3:=pf 3 (by decide);have pf4:=pf 4 (by decide);have pf5:=pf 5 (by decide);have pf6:=pf 6 (by decide);have pf7:=pf 7 (by decide);have pf8:=pf 8 (by decide);have pf9:=pf 9 (by decide);clear pf)
      | (have KN:=heap_alloc_new' w3 (.cells hZ 30);replace HZ:=Lib.hid (hcell (grown_trans HG (hz w3)));replace HS:=Lib.hid (hcell (grown_trans HG (World.grownBy_alloc w3 (.cells (hC E l3 n3' c3 va3 ln3 vc3) 30) none)));obtain ⟨⟨p0,p1,p2,p3,p4,p5,p6,p7,p8,p9⟩,pf⟩:=ten_cells KN;have pf0:=pf 0 (by decide);have pf1:=pf 1 (by decide);have pf2:=pf 2 (by decide);have pf3:=pf 3 (by decide);have pf4:=pf 4 (by decide);have pf5:=pf 5 (by decide);have pf6:=pf 6 (by decide);have pf7:=pf 7 (by decide);have pf8:=pf 8 (by decide);have pf9:=pf 9 (by decide);clear pf))
     | (have HKB:=HG.size;(with_reducible replace HG:=grown_trans (grown_trans HG (hz w2)) hg3);have KB:=(hg3.block _ (lt_of_block (heap_alloc_new' w2 (.cells hZ 30))) (by simp)).trans (heap_alloc_new' w2 _);have HP:=put10_of (E:=E) (la:=l3) (n:=n3') (c:=c3) (va:=va3) (ln:=ln3) (vc:=vc3) KB;unfold put10 at HP;have HS:=Lib.hid (hcell (grown_new (grown_trans (grown_any HG _) HP.2) HKB));clear HP;obtain ⟨⟨p0,p1,p2,p3,p4,p5,p6,p7,p8,p9⟩,pf⟩:=ten_cells KB;have pf0:=pf 0 (by decide);have pf1:=pf 1 (by decide);have pf2:=pf 2 (by decide);have pf3:=pf 3 (by decide);have pf4:=pf 4 (by decide);have pf5:=pf 5 (by decide);have pf6:=pf 6 (by decide);have pf7:=pf 7 (by decide);have pf8:=pf 8 (by decide);have pf9:=pf 9 (by decide);clear pf));obtain ⟨⟨a0,a1,a2,a3,a4,a5,a6,a7,a8,a9⟩,d2,d3⟩:=hcell HG)))
  all_goals
   first
    | (obtain ⟨P9,Q9⟩:=put10_of (E:=E) (la:=l3) (n:=n3') (c:=c3) (va:=va3) (ln:=ln3) (vc:=vc3) (show w3.heap[w2.heap.size]?=some (.cells hZ 30 (0,0)) from KB);obtain ⟨W9,hW9⟩:∃ W9,put10 w3 w2.heap.size E l3 n3' c3 va3 ln3 vc3=W9:=⟨_,rfl⟩;unfold put10 at hW9 P9 Q9;rw [hW9] at P9 Q9 ⊢;have G9:=grown_new (grown_trans (grown_any HG _) Q9) HKB;have H9:=H3.other KB (by decide) (by decide) Q9;clear hW9 Q9 KB)
    | (obtain ⟨P9,Q9⟩:=put10_of (E:=E) (la:=l3) (n:=n3') (c:=c3) (va:=va3) (ln:=ln3) (vc:=vc3) (show w3.heap[W1.heap.size]?=some (.cells hZ 30 (0,0)) from KB);obtain ⟨W9,hW9⟩:∃ W9,put10 w3 W1.heap.size E l3 n3' c3 va3 ln3 vc3=W9:=⟨_,rfl⟩;unfold put10 at hW9 P9 Q9;rw [hW9] at P9 Q9 ⊢;have G9:=grown_new (grown_trans (grown_any HG _) Q9) HKB;have H9:=H3.other KB (by decide) (by decide) Q9;clear hW9 Q9 KB)
    | (have P9:=heap_alloc_new' w3 (.cells (hC E l3 n3' c3 va3 ln3 vc3) 30);have G9:=grown_trans HG (World.grownBy_alloc w3 (.cells (hC E l3 n3' c3 va3 ln3 vc3) 30) none);have H9:=H3.later (World.grownBy_alloc w3 (.cells (hC E l3 n3' c3 va3 ln3 vc3) 30) none);obtain ⟨W9,hW9⟩:∃ W9,w3.alloc (.cells (hC E l3 n3' c3 va3 ln3 vc3) 30)=W9:=⟨_,rfl⟩;rw [hW9] at P9 G9 H9 ⊢;clear hW9 KN)
   have h29:=(G9.block _ (lt_of_block h2) (by simp)).trans h2
   have nb9:=lt_of_block h2
   clear p0 p1 p2 p3 p4 p5 p6 p7 p8 p9 pf0 pf1 pf2 pf3 pf4 pf5 pf6 pf7 pf8 pf9 a0 a1 a2 a3 a4 a5 a6 a7 a8 a9 d2 d3
   obtain ⟨⟨c0,c1,c2,c3',c4,c5,c6,c7,c8,c9⟩,_⟩:=ten_cells P9
   obtain ⟨⟨r0,r1,r2,r3,r4,r5,r6,r7,r8,r9⟩,rf⟩:=ten_cells h29
   have rf0:=rf 0 (by decide)
   have rf1:=rf 1 (by decide)
   have rf2:=rf 2 (by decide)
   have rf3:=rf 3 (by decide)
   have rf4:=rf 4 (by decide)
   have rf5:=rf 5 (by decide)
   have rf6:=rf 6 (by decide)
   have rf7:=rf 7 (by decide)
   have rf8:=rf 8 (by decide)
   have rf9:=rf 9 (by decide)
   clear rf
   go_wp2
   obtain ⟨P11,Q11⟩:=put10_of (E:=E) (la:=l3) (n:=n3') (c:=c3) (va:=va3) (ln:=ln3) (vc:=vc3) h29
   obtain ⟨W11,hW11⟩:∃ W11,put10 W9 (V0.heap.size+1+1) E l3 n3' c3 va3 ln3 vc3=W11:=⟨_,rfl⟩
   unfold put10 at hW11 P11 Q11
   rw [hW11] at P11 Q11 ⊢
   obtain ⟨⟨b0,b1,b2,b3,b4,b5,b6,b7,b8,b9⟩,_⟩:=ten_cells P11
   refine bodyPost_ret (v:=.tuple #[heapV E (.slice l3 n3' c3) (fun c=>.slice (va3 c) (ln3 c) (vc3 c)),.int .u64 0,.int .i64 ce]) (by simp [results,Tryz.results28,go_sem,heapV,b0,b1,b2,b3,b4,b5,b6,b7,b8,b9]) rfl ?_
   exact ⟨_,rfl,H9.other h29 (by decide) (by decide) Q11,grown_new (grown_trans (grown_any (grown_trans ga G9) _) Q11) hnb⟩
end
end Go.Proofs.YtcbdbflgfhbikaaGreat
namespace Go.Proofs.YtcbdbflgfhbikaaGreat
open Go.RowKit
set_option maxRecDepth 100000
section
variable {f:Nat→Nat} {E:Nat} {bs A C:List Blk} {b:Blk} {L L':Nat→List Nat} {p i k:Nat}
theorem SoundF.lists (h:SoundF f E bs L) (hl:∀ c,c<8→L c=L' c):SoundF f E bs L' :=
 ⟨h.head,h.top,h.low,h.told,h.merged,h.tree,⟨fun c hc=>by rw [← hl c hc];exact h.ledg.on c hc,fun c hc=>by rw [← hl c hc];exact h.ledg.once c hc,fun c d hc hd=>by rw [← hl c hc,← hl d hd];exact h.ledg.apart c d hc hd,fun c hc=>by rw [← hl c hc];exact h.ledg.head c hc,fun c hc=>by rw [← hl c hc];exact h.ledg.strung c hc⟩,fun b hb hu c hc=>by rw [← hl c hc];exact h.whose b hb hu c hc⟩
theorem pay_some (h:SoundF f E bs L) (a:Nat) (hu:usedB bs≠[]):∃ i,fstN (pF (payB bs a)) bs=some i:=by
 have hl:0<(payL bs).length:=by
  unfold payL
  rw [List.length_map]
  exact List.length_pos_iff.2 hu
 have hm:payB bs a∈payL bs:=by
  unfold payB
  rw [List.getD_eq_getElem?_getD,List.getElem?_eq_getElem (Nat.mod_lt _ hl)]
  exact List.getElem_mem _
 unfold payL at hm
 obtain ⟨x,hx,e⟩:=List.mem_map.1 hm
 obtain ⟨b,hb,hbu,rfl⟩:=usedB_mem.1 hx
 have hbi:=h.told.is b hb
 have:=hbi.hi
 have:=h.low
 cases hf:fstN (pF (payB bs a)) bs with
 | some i=>exact ⟨i,rfl⟩
 | none =>
  obtain ⟨j,hj,ej⟩:=List.mem_iff_getElem.1 hb
  have:=fstN_none hf j hj
  rw [List.getD_eq_getElem?_getD,List.getElem?_eq_getElem hj,Option.getD_some,ej] at this
  unfold pF at this
  rw [hbu,← e,decide_eq_true (by omega)] at this
  cases this
theorem pay_none (a:Nat) (hu:usedB bs=[]):payB bs a=0∧fstN (pF 0) bs=none:=by
 constructor
 ·unfold payB payL
  rw [hu]
  simp
 ·refine fstN_not fun j hj=>?_
  unfold pF
  have:(bs.getD j default).u=false:=by
   cases e:(bs.getD j default).u with
   | false=>rfl
   | true =>
    have:(bs.getD j default).off∈usedB bs:=usedB_mem.2 ⟨_,getB_mem hj,e,rfl⟩
    rw [hu] at this
    cases this
  rw [this]
  rfl
theorem ct_eq (h:SoundF f E bs L) (hf:fstN (pF p) bs=some i) (hk:cutOk (bs.getD i default) k∧k+48≤(bs.getD i default).s):ctB bs p k=bs.take i++(⟨(bs.getD i default).off,k,true,(bs.getD i default).o,(bs.getD i default).n⟩::freeB ((bs.getD i default).off+k) ((bs.getD i default).s - k+addC (bs.drop (i+1)))::rgtC (bs.drop (i+1))):=by
 obtain ⟨hi,hu,_⟩:=pF_some hf
 have hbs:=bs_amid hi
 have hm:=h.merged
 unfold ctB
 rw [hf]
 dsimp only
 unfold gO gS gU gW gN
 rw [if_pos hk]
 obtain ⟨b,hb⟩:∃ b,bs.getD i default=b:=⟨_,rfl⟩
 obtain ⟨A,hA⟩:∃ A,bs.take i=A:=⟨_,rfl⟩
 obtain ⟨C,hC⟩:∃ C,bs.drop (i+1)=C:=⟨_,rfl⟩
 rw [hb,hA,hC] at hbs ⊢
 rw [hb] at hu
 rw [hbs] at hm
 rw [hu]
 exact join_cut hm rfl
theorem ct_same (hf:fstN (pF p) bs=some i) (hk:¬ (cutOk (bs.getD i default) k∧k+48≤(bs.getD i default).s)):ctB bs p k=bs:=by
 unfold ctB
 rw [hf]
 dsimp only
 unfold gS
 rw [if_neg hk]
theorem fst_split {A C:List Blk} {q:Blk} {p:Nat} (hq:pF p q=true) (hA:∀ x∈A,pF p x=false):fstN (pF p) (A++q::C)=some A.length:=by
 refine fstN_is (by simp) (by rw [List.getD_eq_getElem?_getD,List.getElem?_append_right (Nat.le_refl _),Nat.sub_self];exact hq) fun j hj=>?_
 rw [List.getD_eq_getElem?_getD,List.getElem?_append_left hj,List.getElem?_eq_getElem hj]
 exact hA _ (List.getElem_mem _)
theorem pad16 {off:Nat} (h:off % 16=0):padN off 16=0:=by
 unfold padN
 rw [if_pos (by omega)]
theorem ct_find (h:SoundF f E bs L) (hf:fstN (pF p) bs=some i) (k:Nat):fstN (pF p) (ctB bs p k)=some i∧(ctB bs p k).getD i default=if cutOk (bs.getD i default) k∧k+48≤(bs.getD i default).s then ⟨(bs.getD i default).off,k,true,(bs.getD i default).o,(bs.getD i default).n⟩ else bs.getD i default:=by
 by_cases hk:cutOk (bs.getD i default) k∧k+48≤(bs.getD i default).s
 ·obtain ⟨hi,hu,hp⟩:=pF_some hf
  have hti:(bs.take i).length=i:=by rw [List.length_take];omega
  rw [ct_eq h hf hk,if_pos hk]
  have h1:pF p ⟨(bs.getD i default).off,k,true,(bs.getD i default).o,(bs.getD i default).n⟩=true:=by
   unfold pF
   simp only [Bool.true_and]
   exact decide_eq_true hp
  have h2:=fst_split (C:=freeB ((bs.getD i default).off+k) ((bs.getD i default).s - k+addC (bs.drop (i+1)))::rgtC (bs.drop (i+1))) h1 (A:=bs.take i) fun x hx=>by
   obtain ⟨j,hj,e⟩:=List.mem_iff_getElem.1 hx
   have hj':j<i:=by rw [hti] at hj;exact hj
   have:=fstN_skip hf j hj'
   rw [List.getD_eq_getElem?_getD,List.getElem?_eq_getElem (by omega),Option.getD_some] at this
   rw [← e,List.getElem_take]
   exact this
  rw [hti] at h2
  refine ⟨h2,?_⟩
  rw [List.getD_eq_getElem?_getD,List.getElem?_append_right (by omega),hti,Nat.sub_self]
  rfl
 ·rw [ct_same hf hk,if_neg hk]
  exact ⟨hf,rfl⟩
end
end Go.Proofs.YtcbdbflgfhbikaaGreat
