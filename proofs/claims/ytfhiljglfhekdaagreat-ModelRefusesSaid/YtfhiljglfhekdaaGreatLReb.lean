/-
  Texts of one layer, one behind the other: memory, contracts of the functions, and what follows of them.
  Conditions: as each theorem says.
-/
import Derived.Test.YtfhiljglfhekdaaGreatLRea
import Derived.Test.YtfhiljglfhekdaaGreatLCac
set_option linter.unusedVariables false
set_option linter.unusedSimpArgs false
set_option maxRecDepth 100000
namespace Go.Proofs.YtfhiljglfhekdaaGreat
open Go.RowKit
section
abbrev hC (E:Nat) (la:Option Addr) (n c:Nat) (va:Nat→Option Addr) (ln vc:Nat→Nat):Array Value:=#[.int .u64 E,.slice la n c,.slice (va 0) (ln 0) (vc 0),.slice (va 1) (ln 1) (vc 1),.slice (va 2) (ln 2) (vc 2),.slice (va 3) (ln 3) (vc 3),.slice (va 4) (ln 4) (vc 4),.slice (va 5) (ln 5) (vc 5),.slice (va 6) (ln 6) (vc 6),.slice (va 7) (ln 7) (vc 7)]
abbrev hZ:Array Value:=#[.int .u64 0,.slice none 0 0,.slice none 0 0,.slice none 0 0,.slice none 0 0,.slice none 0 0,.slice none 0 0,.slice none 0 0,.slice none 0 0,.slice none 0 0]
abbrev at10 (b E:Nat) (la:Option Addr) (n c:Nat) (va:Nat→Option Addr) (ln vc:Nat→Nat) (w:World):Prop:=w.cell? ⟨b,0,none⟩=some (.int .u64 E)∧w.cell? ⟨b,1,none⟩=some (.slice la n c)∧w.cell? ⟨b,2,none⟩=some (.slice (va 0) (ln 0) (vc 0))∧w.cell? ⟨b,3,none⟩=some (.slice (va 1) (ln 1) (vc 1))∧w.cell? ⟨b,4,none⟩=some (.slice (va 2) (ln 2) (vc 2))∧w.cell? ⟨b,5,none⟩=some (.slice (va 3) (ln 3) (vc 3))∧w.cell? ⟨b,6,none⟩=some (.slice (va 4) (ln 4) (vc 4))∧w.cell? ⟨b,7,none⟩=some (.slice (va 5) (ln 5) (vc 5))∧w.cell? ⟨b,8,none⟩=some (.slice (va 6) (ln 6) (vc 6))∧w.cell? ⟨b,9,none⟩=some (.slice (va 7) (ln 7) (vc 7))
abbrev Ycx (w:World) (b E:Nat) (la:Option Addr) (n c:Nat) (va:Nat→Option Addr) (ln vc:Nat→Nat):World:=((((((((((w.setCell ⟨b,0,none⟩ (.int .u64 E)).setCell ⟨b,1,none⟩ (.slice la n c)).setCell ⟨b,2,none⟩ (.slice (va 0) (ln 0) (vc 0))).setCell ⟨b,3,none⟩ (.slice (va 1) (ln 1) (vc 1))).setCell ⟨b,4,none⟩ (.slice (va 2) (ln 2) (vc 2))).setCell ⟨b,5,none⟩ (.slice (va 3) (ln 3) (vc 3))).setCell ⟨b,6,none⟩ (.slice (va 4) (ln 4) (vc 4))).setCell ⟨b,7,none⟩ (.slice (va 5) (ln 5) (vc 5))).setCell ⟨b,8,none⟩ (.slice (va 6) (ln 6) (vc 6))).setCell ⟨b,9,none⟩ (.slice (va 7) (ln 7) (vc 7)))
section
variable {w0 W W':World} {base hb rb E n c:Nat} {la la':Option Addr} {n' c':Nat} {va:Nat→Option Addr} {ln vc:Nat→Nat} {hcs rcs hcs':Array Value} {v v':Value} {l k:List Blk}
theorem at10_of {b:Nat} {w:World} (h:w.heap[b]?=some (.cells (hC E la n c va ln vc) 31 (0,0))):at10 b E la n c va ln vc w:=(Yaq h).1
theorem Yb8 {b:Nat} {w:World} (h:w.heap[b]?=some (.cells hZ 31 (0,0))):(Ycx w b E la n c va ln vc).heap[b]?=some (.cells (hC E la n c va ln vc) 31 (0,0))∧w.grownBy (Ycx w b E la n c va ln vc) (some b):=ten_put h
structure FrB (w0:World) (base hb rb:Nat) (hcs:Array Value) (W:World) (v:Value) (l:List Blk):Prop where
 own:OwnB W base 81 v l
 hbx:W.heap[hb]?=some (.cells hcs 31 (0,0))
 rbx:W.heap[rb]?=some (.cells hZ 31 (0,0))
 since:w0.grownBy W none
 lo:hb<base∧rb<base∧hb≠rb∧w0.heap.size≤hb∧w0.heap.size≤rb∧w0.heap.size≤base∧base≤W.heap.size
theorem FrB.later (h:FrB w0 base hb rb hcs W v l) (hg:W.grownBy W' none):FrB w0 base hb rb hcs W' v l :=
 ⟨h.own.later hg,(hg.block _ (lt_of_block h.hbx) (by simp)).trans h.hbx,(hg.block _ (lt_of_block h.rbx) (by simp)).trans h.rbx,Yaa h.since hg,h.lo.1,h.lo.2.1,h.lo.2.2.1,h.lo.2.2.2.1,h.lo.2.2.2.2.1,h.lo.2.2.2.2.2.1,Nat.le_trans h.lo.2.2.2.2.2.2 hg.size⟩
theorem FrB.far (h:FrB w0 base hb rb hcs W v l) {q:Nat} (hq:q<base):some q≠v.ownBlock:=fun e=>by
 have:=(World.ownsRow.lt h.own q e.symm).1
 omega
theorem FrB.row (h:FrB w0 base hb rb hcs W v l) (ho:OwnB W' base 81 v' k) (hg:W.grownBy W' v.ownBlock):FrB w0 base hb rb hcs W' v' k :=
 ⟨ho,(hg.block _ (lt_of_block h.hbx) (h.far h.lo.1)).trans h.hbx,(hg.block _ (lt_of_block h.rbx) (h.far h.lo.2.1)).trans h.rbx,Yaj h.since hg (fun i hi=>.inl (Nat.le_trans h.lo.2.2.2.2.2.1 (World.ownsRow.lt h.own i hi).1)),h.lo.1,h.lo.2.1,h.lo.2.2.1,h.lo.2.2.2.1,h.lo.2.2.2.2.1,h.lo.2.2.2.2.2.1,Nat.le_trans h.lo.2.2.2.2.2.2 hg.size⟩
theorem FrB.other (h:FrB w0 base hb rb hcs W v l) (hg:W.grownBy W' none) (ho:OwnB W' base 81 v' k):FrB w0 base hb rb hcs W' v' k :=
 ⟨ho,(h.later hg).hbx,(h.later hg).rbx,(h.later hg).since,(h.later hg).lo⟩
theorem FrB.heap (h:FrB w0 base hb rb hcs W v l) (hg:W.grownBy W' (some hb)) (hh:W'.heap[hb]?=some (.cells hcs' 31 (0,0))):FrB w0 base hb rb hcs' W' v l :=
 ⟨World.ownsRow.kept h.own hg (.inr fun e=>h.far h.lo.1 e.symm),hh,(hg.block _ (lt_of_block h.rbx) (fun e=>h.lo.2.2.1 (by injection e with e;exact e.symm))).trans h.rbx,Yaj h.since hg (fun i hi=>.inl (by injection hi with hi;subst hi;exact h.lo.2.2.2.1)),h.lo.1,h.lo.2.1,h.lo.2.2.1,h.lo.2.2.2.1,h.lo.2.2.2.2.1,h.lo.2.2.2.2.2.1,Nat.le_trans h.lo.2.2.2.2.2.2 hg.size⟩
theorem fr_start {w w1:World} (hg:((w.alloc (.cells hcs 31)).alloc (.cells hZ 31)).grownBy w1 none):FrB w w1.heap.size w.heap.size (w.heap.size+1) hcs (w1.alloc (.cells #[] 81)) (.slice (some ⟨w1.heap.size,0,none⟩) 0 0) []:=by
 have h1:((w.alloc (.cells hcs 31)).alloc (.cells hZ 31)).heap[w.heap.size]?=some (.cells hcs 31 (0,0)):=(Below.heap_alloc _ _ _ (by simp)).trans (Yab w _)
 have h2:((w.alloc (.cells hcs 31)).alloc (.cells hZ 31)).heap[w.heap.size+1]?=some (.cells hZ 31 (0,0)):=by
  have:=Yab (w.alloc (.cells hcs 31)) (.cells hZ 31)
  rwa [World.size_alloc] at this
 have g2:=Yaa hg (World.grownBy_alloc w1 (.cells #[] 81) none)
 have hs:=hg.size
 rw [World.size_alloc,World.size_alloc] at hs
 exact ⟨ownB_none rfl (Nat.le_refl _),(g2.block _ (lt_of_block h1) (by simp)).trans h1,(g2.block _ (lt_of_block h2) (by simp)).trans h2,Yaa (World.grownBy_alloc _ _ _) (Yaa (World.grownBy_alloc _ _ _) g2),by omega,by omega,by omega,Nat.le_refl _,by omega,by omega,by rw [World.size_alloc];omega⟩
end
theorem own_at {w:World} {base n c:Nat} {t:TypeId} {la:Option Addr} {l:List Blk} (h:OwnB w base t (.slice la n c) l):Yb0 w la l:=by
 obtain ⟨la',c',e,h2⟩:=h.at_
 injection e with e1 e2 e3
 rw [e1]
 exact h2
theorem own_spot {w:World} {base g n c i:Nat} {t:TypeId} {l:List Blk} (h:OwnB w base t (.slice (some ⟨g,0,none⟩) n c) l) (hi:i<l.length):(w.cell? ⟨g,i*5,none⟩=some (.int .u64 (gO l i:Nat))∧w.cell? ⟨g,i*5+1,none⟩=some (.int .u64 (gS l i:Nat))∧w.cell? ⟨g,i*5+2,none⟩=some (.bool (gU l i))∧w.cell? ⟨g,i*5+3,none⟩=some (.int .i64 (gW l i))∧w.cell? ⟨g,i*5+4,none⟩=some (.int .u64 (gN l i:Nat)))∧∀ j,w.frozen? ⟨g,j,none⟩=false:=by
 obtain ⟨g',c',e,_,_,h1,h2⟩:=h.spot (by omega)
 injection e with e1 _ _
 injection e1 with e1
 injection e1 with e1
 subst e1
 exact ⟨h2 i hi,h1⟩
theorem gS_amid {A C:List Blk} {b x:Blk} {S:Nat} (h:∀ k,k<(A++b::C).length→gS (A++b::C) k≤S) (hx:x.s≤S):∀ k,k<(A++x::C).length→gS (A++x::C) k≤S:=fun k hk=>by
 have h1:=h k (by simpa using hk)
 unfold gS at h1 ⊢
 rcases Nat.lt_trichotomy k A.length with h2|h2|h2
 ·rw [List.getD_eq_getElem?_getD,List.getElem?_append_left h2] at h1 ⊢
  exact h1
 ·rw [List.getD_eq_getElem?_getD,List.getElem?_append_right (by omega),h2,Nat.sub_self]
  exact hx
 ·obtain ⟨m,hm⟩:∃ m,k - A.length=m+1:=⟨k - A.length - 1,by omega⟩
  rw [List.getD_eq_getElem?_getD,List.getElem?_append_right (by omega),hm] at h1 ⊢
  exact h1
set_option maxHeartbeats 16000000 in
theorem rfree11_own0 {w:World} {base:Nat} {v:Value} {E:Nat} {A C:List Blk} {q:Blk} {L:Nat→List Nat} (h:HvIs w base v E (A++q::C) L) (hbw:base≤w.heap.size) (hlen:(A++q::C).length≤1000) (hbd:Yds (A++q::C)) {p:Nat} (hpl:fstN (pF p) (A++q::C)=some A.length) (hL:∀ c,c<8→(L c).length≤1000) (h0:q.o=0) :
  Calls Tryz.prog 70 #[v,.int .u64 p] w fun e w'=>∃ v',e=.returned (.tuple #[v',.int .i64 0])∧HvIs w' base v' E (Ybs (A++Ya4 q.off q.s::C)) (lstB L q)∧Yc9 v v' w.heap.size∧w.grownBy w' none:=by
 have hplace:=fun (V:World) (hg:w.grownBy V none)=>Ybp (h.later hg) (by omega) p
 obtain ⟨i,hi⟩:∃ i,A.length=i:=⟨_,rfl⟩
 have hz:fstZ (pF p) (A++q::C)=(i:Nat):=by unfold fstZ;rw [hpl,hi]
 rw [hz] at hplace
 obtain ⟨b,vs,hv0,ho,hl0⟩:=h.is
 obtain ⟨va,ln,vc,hvv,hl,hln⟩:=Ydi (E:=E) (b:=b) hl0
 rw [hvv] at hv0
 subst hv0
 clear hl0 hvv hz hpl
 obtain ⟨la,c,rfl,hb⟩:=ho.at_
 obtain ⟨N,hN⟩:∃ N,(A++q::C).length=N:=⟨_,rfl⟩
 have hiN:i<N:=by rw [← hN,← hi];simp
 have hqi:(A++q::C).getD i default=q:=by rw [← hi,List.getD_eq_getElem?_getD,List.getElem?_append_right (Nat.le_refl _),Nat.sub_self];rfl
 rw [hN] at hlen
 have hbq:=hbd i (by rw [hN];exact hiN)
 have hS:∀ k,k<(A++q::C).length→gS (A++q::C) k≤10000000:=fun k hk=>by have:=(hbd k hk).2.2;omega
 have hqs:q.s≤10000000:=by
  have:=hS i (by rw [hN];exact hiN)
  unfold gS at this
  rw [hqi] at this
  exact this
 have hS2:=gS_amid (x:=Ya4 q.off q.s) hS hqs
 have hN2:(A++Ya4 q.off q.s::C).length=N:=by rw [← hN];simp
 have i1:¬ (i:Int)<0:=by omega
 have i2:(i:Int)<(N:Int):=by omega
 have HBL:=Lib.hid (fun (V:World) (hg:w.grownBy V none)=>hb.later hg)
 have hjn:=fun (V:World) (lj:Option Addr) (cj:Nat) (hj:Yb0 V lj (A++Ya4 q.off q.s::C))=>Yd9 (c:=cj) hj hN2 hlen hS2
 obtain ⟨q0,q1,q2,q3,q4⟩:=q
 simp only at h0 hjn ⊢
 obtain ⟨bsq,hbsq⟩:∃ bsq,Ybs (A++Ya4 q0 q1::C)=bsq:=⟨_,rfl⟩
 rw [hbsq] at hjn ⊢
 have HJN:=Lib.hid hjn
 have HN:=Lib.hid hN
 have HN2:=Lib.hid hN2
 have HI:=Lib.hid hi
 have HQI:=Lib.hid hqi
 have HL:=Lib.hid hl
 have HLL:=Lib.hid hL
 have HLN:=Lib.hid hln
 have hN0:0+N≤1000000:=by omega
 unfold Ya1 at hplace ⊢
 rw [hN] at hplace ⊢
 clear hjn hN hN2 hi hqi hl hL hln ho hb hbd hbq hS hqs hS2 hbsq h
 have hq3:q3=0:=h0
 subst hq3
 go_enter Tryz.func70,Tryz.ntmps70
 go_wp2_with (first
  | (go_at_call 100;((with_reducible refine (hplace _ (Yaa (World.grownBy_alloc _ _ _) (World.grownBy_alloc _ _ _))).mono ?_);rintro e w1 ⟨rfl,hg1⟩;have X2:=fr_start hg1;obtain ⟨⟨y0,y1,y2,y3,y4,y5,y6,y7,y8,y9⟩,_⟩:=Yaq X2.hbx))
  | (at_builtin;go_must (refine Yao X2.own (HBL.out _ X2.since) rfl HN.out hN0 X2.lo.2.2.2.2.2.2 rfl _ _ rfl rfl rfl ?_);intro v5 w5 ho5 hg5 _;have X5:=X2.row ho5 hg5;obtain ⟨g,c5,hv5,hbg,hgw,hfz,hat⟩:=ho5.spot (by rw [List.nil_append,HN.out];omega);rw [List.nil_append,HN.out] at hv5;subst hv5;obtain ⟨z0,z1,z2,z3,z4⟩:=hat i (by rw [List.nil_append,HN.out];exact hiN);unfold gO at z0;unfold gS at z1;unfold gU at z2;unfold gW at z3;unfold gN at z4;rw [List.nil_append,HQI.out] at z0 z1 z2 z3 z4;simp only at z0 z1 z2 z3 z4;have f5:=hfz (i*5);have f6:=hfz (i*5+1);have f7:=hfz (i*5+2);have f8:=hfz (i*5+3);have f9:=hfz (i*5+4);have X6:=(X5.row (ownB_put (C:=C) ⟨q0,q1,false,0,0⟩ X5.own HN.out HI.out) (Yd3 _ _ _ _ _ _ _ _)).later (World.grownBy_alloc _ (.cells #[.int .u64 q0,.int .u64 q1,.bool false,.int .i64 0,.int .u64 0] 81) none);clear hat hfz;clear y0 y1 y2 y3 y4 y5 y6 y7 y8 y9)
  | (go_at_call 82;((with_reducible refine (HJN.out _ _ _ (own_at X6.own)).mono ?_);rintro e w7 ⟨v7,rfl,ho7,hg7⟩;have X7:=X6.other hg7 (ho7.mono X6.lo.2.2.2.2.2.2);obtain ⟨la7,n7,c7,rfl,HN7⟩:=Ydz ho7;obtain ⟨⟨y0,y1,y2,y3,y4,y5,y6,y7,y8,y9⟩,kf⟩:=Yaq X7.hbx;have kf1:=kf 1 (by decide);have hs8:w7.grownBy (w7.setCell ⟨w.heap.size,1,none⟩ (.slice la7 n7 c7)) (some w.heap.size):=Yac _ _ _ _;have X8:=X7.heap (hcs':=hC E la7 n7 c7 va ln vc) hs8 (by rw [Yar X7.hbx _];rfl);obtain ⟨W8,hW8⟩:∃ W8,w7.setCell ⟨w.heap.size,1,none⟩ (.slice la7 n7 c7)=W8:=⟨_,rfl⟩;rw [hW8] at X8;obtain ⟨⟨r0,r1,r2,r3,r4,r5,r6,r7,r8,r9⟩,rf⟩:=Yaq X8.rbx;have rf0:=rf 0 (by decide);have rf1:=rf 1 (by decide);have rf2:=rf 2 (by decide);have rf3:=rf 3 (by decide);have rf4:=rf 4 (by decide);have rf5:=rf 5 (by decide);have rf6:=rf 6 (by decide);have rf7:=rf 7 (by decide);have rf8:=rf 8 (by decide);have rf9:=rf 9 (by decide);obtain ⟨⟨a0,a1,a2,a3,a4,a5,a6,a7,a8,a9⟩,_⟩:=Yaq X8.hbx;clear kf rf hs8 y0 y2 y3 y4 y5 y6 y7 y8 y9)))
 obtain ⟨P11,Q11⟩:=Yb8 (E:=E) (la:=la7) (n:=n7) (c:=c7) (va:=va) (ln:=ln) (vc:=vc) X8.rbx
 obtain ⟨W11,hW11⟩:∃ W11,Ycx W8 (w.heap.size+1) E la7 n7 c7 va ln vc=W11:=⟨_,rfl⟩
 unfold Ycx at hW11 P11 Q11
 rw [hW11] at P11 Q11 ⊢
 have G12:=Yap (Yaa (Yam X8.since _) Q11) (Nat.le_succ _)
 obtain ⟨⟨b0,b1,b2,b3,b4,b5,b6,b7,b8,b9⟩,_⟩:=Yaq P11
 have O12:OwnB W11 base 81 (.slice la7 n7 c7) bsq:=(World.ownsRow.kept X8.own Q11 (.inr (fun e=>X8.far X8.lo.2.1 e.symm))).mono (Nat.le_trans hbw X8.lo.2.2.2.2.2.1)
 refine bodyPost_ret (v:=.tuple #[Ya1 E (.slice la7 n7 c7) (fun c=>.slice (va c) (ln c) (vc c)),.int .i64 0]) (by simp [results,Tryz.results70,go_sem,Ya1,b0,b1,b2,b3,b4,b5,b6,b7,b8,b9]) rfl ?_
 refine ⟨_,rfl,⟨_,_,rfl,O12,fun c hc=>?_⟩,(show Yc9 (Ya1 E (.slice la N c) (fun c=>.slice (va c) (ln c) (vc c))) (Ya1 E _ (fun c=>.slice (va c) (ln c) (vc c))) _ from rows_of (fun c hc=>?_)),G12⟩
 ·show OwnW _ _ (Value.slice (va c) (ln c) (vc c)) (lstB L ⟨q0,q1,q2,0,q4⟩ c)
  unfold lstB
  rw [if_pos rfl]
  exact (HL.out c hc).later G12
 ·exact .inl rfl
set_option maxHeartbeats 16000000 in
theorem rfree11_own1 {w:World} {base:Nat} {v:Value} {E:Nat} {A C:List Blk} {q:Blk} {L:Nat→List Nat} (h:HvIs w base v E (A++q::C) L) (hbw:base≤w.heap.size) (hlen:(A++q::C).length≤1000) (hbd:Yds (A++q::C)) {p:Nat} (hpl:fstN (pF p) (A++q::C)=some A.length) (hL:∀ c,c<8→(L c).length≤1000) (h0:0<q.o∧q.o≤8) :
  Calls Tryz.prog 70 #[v,.int .u64 p] w fun e w'=>∃ v',e=.returned (.tuple #[v',.int .i64 0])∧HvIs w' base v' E (Ybs (A++Ya4 q.off q.s::C)) (lstB L q)∧Yc9 v v' w.heap.size∧w.grownBy w' none:=by
 have hplace:=fun (V:World) (hg:w.grownBy V none)=>Ybp (h.later hg) (by omega) p
 obtain ⟨i,hi⟩:∃ i,A.length=i:=⟨_,rfl⟩
 have hz:fstZ (pF p) (A++q::C)=(i:Nat):=by unfold fstZ;rw [hpl,hi]
 rw [hz] at hplace
 obtain ⟨b,vs,hv0,ho,hl0⟩:=h.is
 obtain ⟨va,ln,vc,hvv,hl,hln⟩:=Ydi (E:=E) (b:=b) hl0
 rw [hvv] at hv0
 subst hv0
 clear hl0 hvv hz hpl
 obtain ⟨la,c,rfl,hb⟩:=ho.at_
 obtain ⟨N,hN⟩:∃ N,(A++q::C).length=N:=⟨_,rfl⟩
 have hiN:i<N:=by rw [← hN,← hi];simp
 have hqi:(A++q::C).getD i default=q:=by rw [← hi,List.getD_eq_getElem?_getD,List.getElem?_append_right (Nat.le_refl _),Nat.sub_self];rfl
 rw [hN] at hlen
 have hbq:=hbd i (by rw [hN];exact hiN)
 have hS:∀ k,k<(A++q::C).length→gS (A++q::C) k≤10000000:=fun k hk=>by have:=(hbd k hk).2.2;omega
 have hqs:q.s≤10000000:=by
  have:=hS i (by rw [hN];exact hiN)
  unfold gS at this
  rw [hqi] at this
  exact this
 have hS2:=gS_amid (x:=Ya4 q.off q.s) hS hqs
 have hN2:(A++Ya4 q.off q.s::C).length=N:=by rw [← hN];simp
 have i1:¬ (i:Int)<0:=by omega
 have i2:(i:Int)<(N:Int):=by omega
 have HBL:=Lib.hid (fun (V:World) (hg:w.grownBy V none)=>hb.later hg)
 have hjn:=fun (V:World) (lj:Option Addr) (cj:Nat) (hj:Yb0 V lj (A++Ya4 q.off q.s::C))=>Yd9 (c:=cj) hj hN2 hlen hS2
 obtain ⟨q0,q1,q2,q3,q4⟩:=q
 simp only at h0 hjn ⊢
 obtain ⟨bsq,hbsq⟩:∃ bsq,Ybs (A++Ya4 q0 q1::C)=bsq:=⟨_,rfl⟩
 rw [hbsq] at hjn ⊢
 have HJN:=Lib.hid hjn
 have HN:=Lib.hid hN
 have HN2:=Lib.hid hN2
 have HI:=Lib.hid hi
 have HQI:=Lib.hid hqi
 have HL:=Lib.hid hl
 have HLL:=Lib.hid hL
 have HLN:=Lib.hid hln
 have hN0:0+N≤1000000:=by omega
 unfold Ya1 at hplace ⊢
 rw [hN] at hplace ⊢
 clear hjn hN hN2 hi hqi hl hL hln ho hb hbd hbq hS hqs hS2 hbsq h
 obtain ⟨k,hk⟩:∃ k:Nat,q3=(k:Int)+1:=⟨(q3 - 1).toNat,by omega⟩
 have hk8:k<8:=by omega
 have hq0:0<q3:=by omega
 have ek:IntKind.i64.wrap (q3 - 1)=(k:Nat):=by rw [IntKind.wrap_i64];omega
 have HK:=Lib.hid hk
 have HK8:=Lib.hid hk8
 have k1:(0:Int)≤(k:Int):=by omega
 have k2:(k:Int)<8:=by omega
 clear hk h0
 go_enter Tryz.func70,Tryz.ntmps70
 go_wp2_with (first
  | (go_at_call 100;((with_reducible refine (hplace _ (Yaa (World.grownBy_alloc _ _ _) (World.grownBy_alloc _ _ _))).mono ?_);rintro e w1 ⟨rfl,hg1⟩;have X2:=fr_start hg1;obtain ⟨⟨y0,y1,y2,y3,y4,y5,y6,y7,y8,y9⟩,_⟩:=Yaq X2.hbx))
  | (at_builtin;go_must (refine Yao X2.own (HBL.out _ X2.since) rfl HN.out hN0 X2.lo.2.2.2.2.2.2 rfl _ _ rfl rfl rfl ?_);intro v5 w5 ho5 hg5 _;have X5:=X2.row ho5 hg5;obtain ⟨g,c5,hv5,hbg,hgw,hfz,hat⟩:=ho5.spot (by rw [List.nil_append,HN.out];omega);rw [List.nil_append,HN.out] at hv5;subst hv5;obtain ⟨z0,z1,z2,z3,z4⟩:=hat i (by rw [List.nil_append,HN.out];exact hiN);unfold gO at z0;unfold gS at z1;unfold gU at z2;unfold gW at z3;unfold gN at z4;rw [List.nil_append,HQI.out] at z0 z1 z2 z3 z4;simp only at z0 z1 z2 z3 z4;have f5:=hfz (i*5);have f6:=hfz (i*5+1);have f7:=hfz (i*5+2);have f8:=hfz (i*5+3);have f9:=hfz (i*5+4);clear hat hfz;clear y0 y1 y2 y3 y4 y5 y6 y7 y8 y9))
 have HW5:=Lib.hid X5
 have hwk:Yb1 w (va k) (L k):=by
  obtain ⟨lk,ck,ek,hk⟩:=(HL.out k HK8.out).lie
  injection ek with q1 _ _
  rw [q1]
  exact hk
 have hlk:ln k≤1000000:=by
  have h1:=HLL.out k HK8.out
  have h2:=HLN.out k
  omega
 have hcellk:∀ V:World,w5.grownBy V none→V.cell? ⟨w.heap.size,2+k,none⟩=some (.slice (va k) (ln k) (vc k))∧V.cell? ⟨g,i*5,none⟩=some (.int .u64 q0)∧V.frozen? ⟨w.heap.size,2+k,none⟩=false:=fun V hg=>⟨eight_at (f:=fun c=>.slice (va c) (ln c) (vc c)) (HW5.out.later hg).hbx HK8.out,by
  have:=(own_spot (HW5.out.later hg).own (i:=i) (by rw [List.nil_append,HN.out];exact hiN)).1.1
  unfold gO at this
  rw [List.nil_append,HQI.out] at this
  exact this,eight_frozen (f:=fun c=>.slice (va c) (ln c) (vc c)) (HW5.out.later hg).hbx HK8.out⟩
 have HG:w5.grownBy w5.drew none:=Yah (Yag _ _)
 obtain ⟨l0,l1,l2⟩:=hcellk _ HG
 have kt:(k:Int).toNat=k:=by simp
 clear z0 z1 z2 z3 z4 f5 f6 f7 f8 f9
 go_region_law (first|(go_simp;go_at_call 101;go_must ((with_reducible refine (rwithout_any (hwk.later (Yaa HW5.out.since HG)) (HLN.out k) hlk q0).mono ?_);rintro e w6 ⟨v6,rfl,ho6,hg6⟩;have ho6:=ho6.mono HG.size;obtain ⟨a6,n6,c6,rfl⟩:=ownW_lie ho6;replace HG:=Yaa HG hg6;obtain ⟨l0,l1,l2⟩:=hcellk _ HG)))
 all_goals
  have X6a:=HW5.out.later HG
  obtain ⟨vb,lb,vd,hvb⟩:∃ (vb:Nat→Option Addr) (lb vd:Nat→Nat),∀ c,Value.slice (vb c) (lb c) (vd c)=if c=k then .slice a6 n6 c6 else .slice (va c) (ln c) (vc c):=⟨fun c=>if c=k then a6 else va c,fun c=>if c=k then n6 else ln c,fun c=>if c=k then c6 else vc c,fun c=>by by_cases h:c=k <;> simp [h]⟩
  have hset:w6.grownBy (w6.setCell ⟨w.heap.size,2+k,none⟩ (.slice a6 n6 c6)) (some w.heap.size):=Yac _ _ _ _
  have X6:=X6a.heap (hcs':=hC E la N c vb lb vd) hset (eight_put (f:=fun c=>.slice (va c) (ln c) (vc c)) X6a.hbx HK8.out (.slice a6 n6 c6) (g:=fun c=>.slice (vb c) (lb c) (vd c)) hvb)
  have hl6:∀ q,(Value.slice a6 n6 c6).ownBlock=some q→q≠g∧q≠w.heap.size∧q≠w.heap.size+1:=fun q e=>by
   have h1:=(World.ownsRow.lt ho6 _ e).1
   have h2:=HW5.out.lo
   omega
  have ho7:=World.ownsRow.kept ho6 hset (.inr fun e=>(hl6 _ e).2.1 rfl)
  obtain ⟨W6,hW6⟩:∃ W6,w6.setCell ⟨w.heap.size,2+k,none⟩ (.slice a6 n6 c6)=W6:=⟨_,rfl⟩
  rw [hW6] at X6 ho7 ⊢
  obtain ⟨⟨z0,z1,z2,z3,z4⟩,hfz⟩:=own_spot X6.own (i:=i) (by rw [List.nil_append,HN.out];exact hiN)
  have hgw6:g<W6.heap.size:=(World.ownsRow.lt X6.own g rfl).2
  unfold gO at z0
  unfold gS at z1
  unfold gU at z2
  unfold gW at z3
  unfold gN at z4
  rw [List.nil_append,HQI.out] at z0 z1 z2 z3 z4
  simp only at z0 z1 z2 z3 z4
  have f5:=hfz (i*5)
  have f6:=hfz (i*5+1)
  have f7:=hfz (i*5+2)
  have f8:=hfz (i*5+3)
  have f9:=hfz (i*5+4)
  have X9:=(X6.row (ownB_put (C:=C) ⟨q0,q1,false,0,0⟩ X6.own HN.out HI.out) (Yd3 _ _ _ _ _ _ _ _)).later (World.grownBy_alloc _ (.cells #[.int .u64 q0,.int .u64 q1,.bool false,.int .i64 0,.int .u64 0] 81) none)
  have ho9:=OwnW.later (World.ownsRow.kept ho7 (Yd3 W6 g i (.int .u64 (q0:Nat)) (.int .u64 (q1:Nat)) (.bool false) (.int .i64 0) (.int .u64 ((0:Nat):Int))) (.inr fun e=>(hl6 _ e).1 rfl)) (World.grownBy_alloc _ (.cells #[.int .u64 q0,.int .u64 q1,.bool false,.int .i64 0,.int .u64 0] 81) none)
  have HVB:=Lib.hid hvb
  have HL6:=Lib.hid hl6
  have HO9:=Lib.hid ho9
  have HX9:=Lib.hid X9
  clear hfz l0 l1 l2 hW6 hset hvb hl6 ho6 ho7 ho9 X9 X6 X6a kt hcellk HG hg6 hwk hlk
  go_wp2_with (first
   | (go_at_call 82;((with_reducible refine (HJN.out _ _ _ (own_at HX9.out.own)).mono ?_);rintro e w7 ⟨v7,rfl,ho7,hg7⟩;have X7:=HX9.out.other hg7 (ho7.mono HX9.out.lo.2.2.2.2.2.2);obtain ⟨la7,n7,c7,rfl,HN7⟩:=Ydz ho7;obtain ⟨⟨y0,y1,y2,y3,y4,y5,y6,y7,y8,y9⟩,kf⟩:=Yaq X7.hbx;have kf1:=kf 1 (by decide);have hs8:w7.grownBy (w7.setCell ⟨w.heap.size,1,none⟩ (.slice la7 n7 c7)) (some w.heap.size):=Yac _ _ _ _;have X8:=X7.heap (hcs':=hC E la7 n7 c7 vb lb vd) hs8 (by rw [Yar X7.hbx _];rfl);obtain ⟨W8,hW8⟩:∃ W8,w7.setCell ⟨w.heap.size,1,none⟩ (.slice la7 n7 c7)=W8:=⟨_,rfl⟩;rw [hW8] at X8;obtain ⟨⟨r0,r1,r2,r3,r4,r5,r6,r7,r8,r9⟩,rf⟩:=Yaq X8.rbx;have rf0:=rf 0 (by decide);have rf1:=rf 1 (by decide);have rf2:=rf 2 (by decide);have rf3:=rf 3 (by decide);have rf4:=rf 4 (by decide);have rf5:=rf 5 (by decide);have rf6:=rf 6 (by decide);have rf7:=rf 7 (by decide);have rf8:=rf 8 (by decide);have rf9:=rf 9 (by decide);obtain ⟨⟨a0,a1,a2,a3,a4,a5,a6,a7,a8,a9⟩,_⟩:=Yaq X8.hbx;have ho10:=World.ownsRow.kept (HO9.out.later hg7) hs8 (.inr fun e=>(HL6.out _ e).2.1 rfl);rw [hW8] at ho10;clear kf rf hs8 y0 y2 y3 y4 y5 y6 y7 y8 y9)))
  obtain ⟨P11,Q11⟩:=Yb8 (E:=E) (la:=la7) (n:=n7) (c:=c7) (va:=vb) (ln:=lb) (vc:=vd) X8.rbx
  obtain ⟨W11,hW11⟩:∃ W11,Ycx W8 (w.heap.size+1) E la7 n7 c7 vb lb vd=W11:=⟨_,rfl⟩
  unfold Ycx at hW11 P11 Q11
  rw [hW11] at P11 Q11 ⊢
  have G12:=Yap (Yaa (Yam X8.since _) Q11) (Nat.le_succ _)
  obtain ⟨⟨b0,b1,b2,b3,b4,b5,b6,b7,b8,b9⟩,_⟩:=Yaq P11
  have O12:OwnB W11 base 81 (.slice la7 n7 c7) bsq:=(World.ownsRow.kept X8.own Q11 (.inr (fun e=>X8.far X8.lo.2.1 e.symm))).mono (Nat.le_trans hbw X8.lo.2.2.2.2.2.1)
  refine bodyPost_ret (v:=.tuple #[Ya1 E (.slice la7 n7 c7) (fun c=>.slice (vb c) (lb c) (vd c)),.int .i64 0]) (by simp [results,Tryz.results70,go_sem,Ya1,b0,b1,b2,b3,b4,b5,b6,b7,b8,b9]) rfl ?_
  refine ⟨_,rfl,⟨_,_,rfl,O12,fun c hc=>?_⟩,(show Yc9 (Ya1 E (.slice la N c) (fun c=>.slice (va c) (ln c) (vc c))) (Ya1 E _ (fun c=>.slice (vb c) (lb c) (vd c))) _ from rows_of (fun c hc=>?_)),G12⟩
  ·show OwnW _ _ (Value.slice (vb c) (lb c) (vd c)) (lstB L ⟨q0,q1,q2,q3,q4⟩ c)
   have hk:=HK.out
   unfold lstB
   rw [if_neg (show ¬ q3=0 by omega),show q3.toNat - 1=k by omega,HVB.out c]
   by_cases e:c=k
   ·rw [e,if_pos rfl,Yeq]
    exact (World.ownsRow.kept ho10 Q11 (.inr fun e=>(HL6.out _ e).2.2 rfl)).mono (Nat.le_trans hbw HW5.out.since.size)
   ·rw [if_neg e,Yd1 _ e]
    exact (HL.out c hc).later G12
  ·rw [HVB.out c]
   by_cases e:c=k
   ·rw [if_pos e]
    exact .inr fun g hg=>Nat.le_trans HW5.out.since.size (World.ownsRow.lt ho10 _ hg).1
   ·rw [if_neg e]
    exact .inl rfl
theorem rfree11_ok {w:World} {base:Nat} {v:Value} {E:Nat} {A C:List Blk} {q:Blk} {L:Nat→List Nat} (h:HvIs w base v E (A++q::C) L) (hbw:base≤w.heap.size) (hlen:(A++q::C).length≤1000) (hbd:Yds (A++q::C)) {p:Nat} (hpl:fstN (pF p) (A++q::C)=some A.length) (hL:∀ c,c<8→(L c).length≤1000) (h0:0≤q.o∧q.o≤8) :
  Calls Tryz.prog 70 #[v,.int .u64 p] w fun e w'=>∃ v',e=.returned (.tuple #[v',.int .i64 0])∧HvIs w' base v' E (Ybs (A++Ya4 q.off q.s::C)) (lstB L q)∧Yc9 v v' w.heap.size∧w.grownBy w' none:=by
 by_cases h1:q.o=0
 ·exact rfree11_own0 h hbw hlen hbd hpl hL h1
 ·exact rfree11_own1 h hbw hlen hbd hpl hL (by omega)
end
section
theorem Ydj {w w1:World} {hcs:Array Value} (hg:((w.alloc (.cells hcs 31)).alloc (.cells hZ 31)).grownBy w1 none):w1.heap[w.heap.size]?=some (.cells hcs 31 (0,0))∧w1.heap[w.heap.size+1]?=some (.cells hZ 31 (0,0))∧w.grownBy w1 none:=by
 have h1:((w.alloc (.cells hcs 31)).alloc (.cells hZ 31)).heap[w.heap.size]?=some (.cells hcs 31 (0,0)):=(Below.heap_alloc _ _ _ (by simp)).trans (Yab w _)
 have h2:((w.alloc (.cells hcs 31)).alloc (.cells hZ 31)).heap[w.heap.size+1]?=some (.cells hZ 31 (0,0)):=by
  have:=Yab (w.alloc (.cells hcs 31)) (.cells hZ 31)
  rwa [World.size_alloc] at this
 exact ⟨(hg.block _ (lt_of_block h1) (by simp)).trans h1,(hg.block _ (lt_of_block h2) (by simp)).trans h2,Yaa (World.grownBy_alloc _ _ _) (Yaa (World.grownBy_alloc _ _ _) hg)⟩
theorem HvIs.lie {w:World} {base E:Nat} {v:Value} {bs:List Blk} {L:Nat→List Nat} (h:HvIs w base v E bs L):∃ (la:Option Addr) (c:Nat) (va:Nat→Option Addr) (ln vc:Nat→Nat),v=Ya1 E (.slice la bs.length c) (fun c=>.slice (va c) (ln c) (vc c))∧Yb0 w la bs:=by
 obtain ⟨b,vs,hv0,ho,hl0⟩:=h.is
 obtain ⟨va,ln,vc,hvv,hl,hln⟩:=Ydi (E:=E) (b:=b) hl0
 rw [hvv] at hv0
 obtain ⟨la,c,e,hb⟩:=ho.at_
 rw [e] at hv0
 exact ⟨la,c,va,ln,vc,hv0,hb⟩
set_option maxHeartbeats 4000000 in
theorem rfree11_none {w:World} {base:Nat} {v:Value} {E:Nat} {bs:List Blk} {L:Nat→List Nat} (h:HvIs w base v E bs L) (hlen:bs.length≤1000) {p:Nat} (hpl:fstN (pF p) bs=none) :
  Calls Tryz.prog 70 #[v,.int .u64 p] w fun e w'=>e=.returned (.tuple #[v,.int .i64 4])∧w.grownBy w' none:=by
 have hplace:=fun (V:World) (hg:w.grownBy V none)=>Ybp (h.later hg) (by omega) p
 have hz:fstZ (pF p) bs = -1:=by unfold fstZ;rw [hpl]
 rw [hz] at hplace
 obtain ⟨la,c,va,ln,vc,rfl,hb⟩:=h.lie
 obtain ⟨N,hN⟩:∃ N,bs.length=N:=⟨_,rfl⟩
 unfold Ya1 at hplace ⊢
 rw [hN] at hplace ⊢
 clear hN hb h hz hpl hlen
 go_enter Tryz.func70,Tryz.ntmps70
 go_wp2_with (first
  | (go_at_call 100;((with_reducible refine (hplace _ (Yaa (World.grownBy_alloc _ _ _) (World.grownBy_alloc _ _ _))).mono ?_);rintro e w1 ⟨rfl,hg1⟩;obtain ⟨hx1,hr1,hG1⟩:=Ydj hg1;obtain ⟨⟨a0,a1,a2,a3,a4,a5,a6,a7,a8,a9⟩,_⟩:=Yaq hx1;obtain ⟨⟨r0,r1,r2,r3,r4,r5,r6,r7,r8,r9⟩,rf⟩:=Yaq hr1;have rf0:=rf 0 (by decide);have rf1:=rf 1 (by decide);have rf2:=rf 2 (by decide);have rf3:=rf 3 (by decide);have rf4:=rf 4 (by decide);have rf5:=rf 5 (by decide);have rf6:=rf 6 (by decide);have rf7:=rf 7 (by decide);have rf8:=rf 8 (by decide);have rf9:=rf 9 (by decide);clear rf)))
 obtain ⟨P11,Q11⟩:=Yb8 (E:=E) (la:=la) (n:=N) (c:=c) (va:=va) (ln:=ln) (vc:=vc) hr1
 obtain ⟨W11,hW11⟩:∃ W11,Ycx w1 (w.heap.size+1) E la N c va ln vc=W11:=⟨_,rfl⟩
 unfold Ycx at hW11 P11 Q11
 rw [hW11] at P11 Q11 ⊢
 obtain ⟨⟨b0,b1,b2,b3,b4,b5,b6,b7,b8,b9⟩,_⟩:=Yaq P11
 refine bodyPost_ret (v:=.tuple #[Ya1 E (.slice la N c) (fun c=>.slice (va c) (ln c) (vc c)),.int .i64 4]) (by simp [results,Tryz.results70,go_sem,Ya1,b0,b1,b2,b3,b4,b5,b6,b7,b8,b9]) rfl ?_
 exact ⟨rfl,Yap (Yaa (Yam hG1 _) Q11) (Nat.le_succ _)⟩
set_option maxHeartbeats 4000000 in
theorem rcut11_none {w:World} {base:Nat} {v:Value} {E:Nat} {bs:List Blk} {L:Nat→List Nat} (h:HvIs w base v E bs L) (hlen:bs.length≤1000) {p:Nat} (hpl:fstN (pF p) bs=none) (k:Nat) :
  Calls Tryz.prog 108 #[v,.int .u64 p,.int .u64 k] w fun e w'=>e=.returned (.tuple #[v,.int .i64 4])∧w.grownBy w' none:=by
 have hplace:=fun (V:World) (hg:w.grownBy V none)=>Ybp (h.later hg) (by omega) p
 have hz:fstZ (pF p) bs = -1:=by unfold fstZ;rw [hpl]
 rw [hz] at hplace
 obtain ⟨la,c,va,ln,vc,rfl,hb⟩:=h.lie
 obtain ⟨N,hN⟩:∃ N,bs.length=N:=⟨_,rfl⟩
 unfold Ya1 at hplace ⊢
 rw [hN] at hplace ⊢
 clear hN hb h hz hpl hlen
 go_enter Tryz.func108,Tryz.ntmps108
 go_wp2_with (first
  | (go_at_call 100;((with_reducible refine (hplace _ (Yaa (World.grownBy_alloc _ _ _) (World.grownBy_alloc _ _ _))).mono ?_);rintro e w1 ⟨rfl,hg1⟩;obtain ⟨hx1,hr1,hG1⟩:=Ydj hg1;obtain ⟨⟨a0,a1,a2,a3,a4,a5,a6,a7,a8,a9⟩,_⟩:=Yaq hx1;obtain ⟨⟨r0,r1,r2,r3,r4,r5,r6,r7,r8,r9⟩,rf⟩:=Yaq hr1;have rf0:=rf 0 (by decide);have rf1:=rf 1 (by decide);have rf2:=rf 2 (by decide);have rf3:=rf 3 (by decide);have rf4:=rf 4 (by decide);have rf5:=rf 5 (by decide);have rf6:=rf 6 (by decide);have rf7:=rf 7 (by decide);have rf8:=rf 8 (by decide);have rf9:=rf 9 (by decide);clear rf)))
 obtain ⟨P11,Q11⟩:=Yb8 (E:=E) (la:=la) (n:=N) (c:=c) (va:=va) (ln:=ln) (vc:=vc) hr1
 obtain ⟨W11,hW11⟩:∃ W11,Ycx w1 (w.heap.size+1) E la N c va ln vc=W11:=⟨_,rfl⟩
 unfold Ycx at hW11 P11 Q11
 rw [hW11] at P11 Q11 ⊢
 obtain ⟨⟨b0,b1,b2,b3,b4,b5,b6,b7,b8,b9⟩,_⟩:=Yaq P11
 refine bodyPost_ret (v:=.tuple #[Ya1 E (.slice la N c) (fun c=>.slice (va c) (ln c) (vc c)),.int .i64 4]) (by simp [results,Tryz.results108,go_sem,Ya1,b0,b1,b2,b3,b4,b5,b6,b7,b8,b9]) rfl ?_
 exact ⟨rfl,Yap (Yaa (Yam hG1 _) Q11) (Nat.le_succ _)⟩
theorem need48' (n:Nat):48≤Yat n:=by
 unfold Yat
 split <;> omega
set_option maxHeartbeats 8000000 in
theorem rcut11_few {w:World} {base:Nat} {v:Value} {E:Nat} {bs:List Blk} {L:Nat→List Nat} (h:HvIs w base v E bs L) (hlen:bs.length≤1000) {p i k:Nat} (hpl:fstN (pF p) bs=some i) (hn:(bs.getD i default).n+55<18446744073709551616) (hs:(bs.getD i default).s<1000000000) (hk:k<18446744073709551616) (hok:k % 16=0∧Yat (bs.getD i default).n≤k∧k≤(bs.getD i default).s) (hf:(bs.getD i default).s<k+48) :
  Calls Tryz.prog 108 #[v,.int .u64 p,.int .u64 k] w fun e w'=>e=.returned (.tuple #[v,.int .i64 0])∧w.grownBy w' none:=by
 have hiN:i<bs.length:=(Ydr hpl).1
 have hplace:=fun (V:World) (hg:w.grownBy V none)=>Ybp (h.later hg) (by omega) p
 have hz:fstZ (pF p) bs=(i:Nat):=by unfold fstZ;rw [hpl]
 rw [hz] at hplace
 obtain ⟨la,c,va,ln,vc,rfl,hb⟩:=h.lie
 obtain ⟨N,hN⟩:∃ N,bs.length=N:=⟨_,rfl⟩
 unfold Ya1 at hplace ⊢
 rw [hN] at hplace ⊢
 rw [hN] at hiN
 obtain ⟨bb,off,rfl,hbb,hcs⟩:=hb.cells (by omega)
 obtain ⟨c0,c1,c2,c3,c4⟩:=hcs i (by omega)
 unfold gO at c0
 unfold gS at c1
 unfold gU at c2
 unfold gW at c3
 unfold gN at c4
 obtain ⟨q,hq⟩:∃ q,bs.getD i default=q:=⟨_,rfl⟩
 rw [hq] at c0 c1 c2 c3 c4 hn hs hok hf
 obtain ⟨q0,q1,q2,q3,q4⟩:=q
 simp only at c0 c1 c2 c3 c4 hn hs
 have hnd:=fun V=>Ycw q4 hn V
 have hn48:=need48' q4
 obtain ⟨nd,hnd'⟩:∃ nd,Yat q4=nd:=⟨_,rfl⟩
 rw [hnd'] at hnd hn48
 have hcell:∀ V:World,w.grownBy V none→V.cell? ⟨bb,off+i*5,none⟩=some (.int .u64 q0)∧V.cell? ⟨bb,off+i*5+1,none⟩=some (.int .u64 q1)∧V.cell? ⟨bb,off+i*5+2,none⟩=some (.bool q2)∧V.cell? ⟨bb,off+i*5+3,none⟩=some (.int .i64 q3)∧V.cell? ⟨bb,off+i*5+4,none⟩=some (.int .u64 q4):=fun V hg=>by
  have hq:=hg.block bb hbb (by simp)
  exact ⟨(World.cell?_of_block (w:=w) (a:=⟨bb,off+i*5,none⟩) hq).trans c0,(World.cell?_of_block (w:=w) (a:=⟨bb,off+i*5+1,none⟩) hq).trans c1,(World.cell?_of_block (w:=w) (a:=⟨bb,off+i*5+2,none⟩) hq).trans c2,(World.cell?_of_block (w:=w) (a:=⟨bb,off+i*5+3,none⟩) hq).trans c3,(World.cell?_of_block (w:=w) (a:=⟨bb,off+i*5+4,none⟩) hq).trans c4⟩
 have HCL:=Lib.hid hcell
 have i1:¬ (i:Int)<0:=by omega
 have i2:(i:Int)<(N:Int):=by omega
 have e16:(k:Int).tmod 16=((k % 16:Nat):Int):=by rw [Int.tmod_eq_emod_of_nonneg (by omega)];omega
 obtain ⟨r,hr⟩:∃ r,k % 16=r:=⟨_,rfl⟩
 rw [hr] at e16
 clear hcs c0 c1 c2 c3 c4 hb hN h hz hpl hlen hq hcell hn
 simp only at hok hf
 rw [hr,hnd'] at hok
 obtain ⟨o1,o2,o3⟩:=hok
 subst o1
 obtain ⟨d,hd⟩:∃ d,q1 - k=d:=⟨_,rfl⟩
 have ed:IntKind.u64.wrap ((q1:Int) - (k:Int))=(d:Nat):=by rw [IntKind.wrap_u64];omega
 have k48:¬ (k:Int)<48:=by omega
 have knd:¬ (k:Int)<(nd:Int):=by omega
 have kq:¬ (q1:Int)<(k:Int):=by omega
 have d48:(d:Int)<48:=by omega
 simp only [show ((0:Nat):Int)=0 from rfl] at e16
 clear o2 o3 hf hd hs hnd' hn48 hr hk
 go_enter Tryz.func108,Tryz.ntmps108
 go_wp2_with (first
  | (go_at_call 100;((with_reducible refine (hplace _ (Yaa (World.grownBy_alloc _ _ _) (World.grownBy_alloc _ _ _))).mono ?_);rintro e w1 ⟨rfl,hg1⟩;obtain ⟨hx1,hr1,hG1⟩:=Ydj hg1;obtain ⟨⟨_,a1,_⟩,_⟩:=Yaq hx1;have HX1:=Lib.hid hx1;have HR1:=Lib.hid hr1;clear hx1 hr1;obtain ⟨y0,y1,y2,y3,y4⟩:=HCL.out _ hG1))
  | (go_at_call 19;((with_reducible refine (hnd _).mono ?_);rintro e w2 ⟨rfl,rfl⟩;have ga:=World.grownBy_alloc w1 (.cells #[.int .u64 q0,.int .u64 q1,.bool q2,.int .i64 q3,.int .u64 q4] 81) none;have ba:=Yab w1 (.cells #[.int .u64 q0,.int .u64 q1,.bool q2,.int .i64 q3,.int .u64 q4] 81);obtain ⟨W2,hW2⟩:∃ W2,w1.alloc (.cells #[.int .u64 q0,.int .u64 q1,.bool q2,.int .i64 q3,.int .u64 q4] 81)=W2:=⟨_,rfl⟩;obtain ⟨ub,hub⟩:∃ ub,w1.heap.size=ub:=⟨_,rfl⟩;rw [hW2] at ga ba ⊢;rw [hub] at ba ⊢;have hx1:=(ga.block _ (lt_of_block HX1.out) (by simp)).trans HX1.out;have hr1:=(ga.block _ (lt_of_block HR1.out) (by simp)).trans HR1.out;replace hG1:=Yaa hG1 ga;clear hW2 hub ga a1 y0 y1 y2 y3 y4;obtain ⟨d0,d1,d2,d3,d4⟩:=Yaw ba;obtain ⟨⟨a0,a1,a2,a3,a4,a5,a6,a7,a8,a9⟩,_⟩:=Yaq hx1;obtain ⟨⟨r0,r1,r2,r3,r4,r5,r6,r7,r8,r9⟩,rf⟩:=Yaq hr1;have rf0:=rf 0 (by decide);have rf1:=rf 1 (by decide);have rf2:=rf 2 (by decide);have rf3:=rf 3 (by decide);have rf4:=rf 4 (by decide);have rf5:=rf 5 (by decide);have rf6:=rf 6 (by decide);have rf7:=rf 7 (by decide);have rf8:=rf 8 (by decide);have rf9:=rf 9 (by decide);clear rf)))
 obtain ⟨P11,Q11⟩:=Yb8 (E:=E) (la:=some ⟨bb,off,none⟩) (n:=N) (c:=c) (va:=va) (ln:=ln) (vc:=vc) hr1
 obtain ⟨W11,hW11⟩:∃ W11,Ycx W2 (w.heap.size+1) E (some ⟨bb,off,none⟩) N c va ln vc=W11:=⟨_,rfl⟩
 unfold Ycx at hW11 P11 Q11
 rw [hW11] at P11 Q11 ⊢
 obtain ⟨⟨b0,b1,b2,b3,b4,b5,b6,b7,b8,b9⟩,_⟩:=Yaq P11
 refine bodyPost_ret (v:=.tuple #[Ya1 E (.slice (some ⟨bb,off,none⟩) N c) (fun c=>.slice (va c) (ln c) (vc c)),.int .i64 0]) (by simp [results,Tryz.results108,go_sem,Ya1,b0,b1,b2,b3,b4,b5,b6,b7,b8,b9]) rfl ?_
 exact ⟨rfl,Yap (Yaa (Yam hG1 _) Q11) (Nat.le_succ _)⟩
set_option maxHeartbeats 8000000 in
theorem rcut11_bad {w:World} {base:Nat} {v:Value} {E:Nat} {bs:List Blk} {L:Nat→List Nat} (h:HvIs w base v E bs L) (hlen:bs.length≤1000) {p i k:Nat} (hpl:fstN (pF p) bs=some i) (hn:(bs.getD i default).n+55<18446744073709551616) (hs:(bs.getD i default).s<1000000000) (hk:k<18446744073709551616) (hok:¬ (k % 16=0∧Yat (bs.getD i default).n≤k∧k≤(bs.getD i default).s)) :
  Calls Tryz.prog 108 #[v,.int .u64 p,.int .u64 k] w fun e w'=>e=.returned (.tuple #[v,.int .i64 1])∧w.grownBy w' none:=by
 have hiN:i<bs.length:=(Ydr hpl).1
 have hplace:=fun (V:World) (hg:w.grownBy V none)=>Ybp (h.later hg) (by omega) p
 have hz:fstZ (pF p) bs=(i:Nat):=by unfold fstZ;rw [hpl]
 rw [hz] at hplace
 obtain ⟨la,c,va,ln,vc,rfl,hb⟩:=h.lie
 obtain ⟨N,hN⟩:∃ N,bs.length=N:=⟨_,rfl⟩
 unfold Ya1 at hplace ⊢
 rw [hN] at hplace ⊢
 rw [hN] at hiN
 obtain ⟨bb,off,rfl,hbb,hcs⟩:=hb.cells (by omega)
 obtain ⟨c0,c1,c2,c3,c4⟩:=hcs i (by omega)
 unfold gO at c0
 unfold gS at c1
 unfold gU at c2
 unfold gW at c3
 unfold gN at c4
 obtain ⟨q,hq⟩:∃ q,bs.getD i default=q:=⟨_,rfl⟩
 rw [hq] at c0 c1 c2 c3 c4 hn hs hok
 obtain ⟨q0,q1,q2,q3,q4⟩:=q
 simp only at c0 c1 c2 c3 c4 hn hs
 have hnd:=fun V=>Ycw q4 hn V
 have hn48:=need48' q4
 obtain ⟨nd,hnd'⟩:∃ nd,Yat q4=nd:=⟨_,rfl⟩
 rw [hnd'] at hnd hn48
 have hcell:∀ V:World,w.grownBy V none→V.cell? ⟨bb,off+i*5,none⟩=some (.int .u64 q0)∧V.cell? ⟨bb,off+i*5+1,none⟩=some (.int .u64 q1)∧V.cell? ⟨bb,off+i*5+2,none⟩=some (.bool q2)∧V.cell? ⟨bb,off+i*5+3,none⟩=some (.int .i64 q3)∧V.cell? ⟨bb,off+i*5+4,none⟩=some (.int .u64 q4):=fun V hg=>by
  have hq:=hg.block bb hbb (by simp)
  exact ⟨(World.cell?_of_block (w:=w) (a:=⟨bb,off+i*5,none⟩) hq).trans c0,(World.cell?_of_block (w:=w) (a:=⟨bb,off+i*5+1,none⟩) hq).trans c1,(World.cell?_of_block (w:=w) (a:=⟨bb,off+i*5+2,none⟩) hq).trans c2,(World.cell?_of_block (w:=w) (a:=⟨bb,off+i*5+3,none⟩) hq).trans c3,(World.cell?_of_block (w:=w) (a:=⟨bb,off+i*5+4,none⟩) hq).trans c4⟩
 have HCL:=Lib.hid hcell
 have i1:¬ (i:Int)<0:=by omega
 have i2:(i:Int)<(N:Int):=by omega
 have e16:(k:Int).tmod 16=((k % 16:Nat):Int):=by rw [Int.tmod_eq_emod_of_nonneg (by omega)];omega
 obtain ⟨r,hr⟩:∃ r,k % 16=r:=⟨_,rfl⟩
 rw [hr] at e16
 clear hcs c0 c1 c2 c3 c4 hb hN h hz hpl hlen hq hcell hn
 simp only at hok
 rw [hr,hnd'] at hok
 have hc:(¬ (r:Int)=0∧((r:Int) != 0)=true)∨(r=0∧(k:Int)<48)∨(r=0∧¬ (k:Int)<48∧(k:Int)<(nd:Int))∨(r=0∧¬ (k:Int)<48∧¬ (k:Int)<(nd:Int)∧(q1:Int)<(k:Int)):=by
  by_cases h0:r=0
  ·by_cases h1:k<48
   ·exact .inr (.inl ⟨h0,by omega⟩)
   ·by_cases h2:k<nd
    ·exact .inr (.inr (.inl ⟨h0,by omega,by omega⟩))
    ·exact .inr (.inr (.inr ⟨h0,by omega,by omega,by omega⟩))
  ·exact .inl ⟨by omega,by simpa using h0⟩
 clear hs hnd' hn48 hr hk hok
 rcases hc with ⟨f1,f2⟩|⟨rfl,f1⟩|⟨rfl,f1,f2⟩|⟨rfl,f1,f2,f3⟩
 all_goals
  try simp only [show ((0:Nat):Int)=0 from rfl] at e16
  go_enter Tryz.func108,Tryz.ntmps108
  go_wp2_with (first
   | (go_at_call 100;((with_reducible refine (hplace _ (Yaa (World.grownBy_alloc _ _ _) (World.grownBy_alloc _ _ _))).mono ?_);rintro e w1 ⟨rfl,hg1⟩;obtain ⟨hx1,hr1,hG1⟩:=Ydj hg1;obtain ⟨⟨_,a1,_⟩,_⟩:=Yaq hx1;have HX1:=Lib.hid hx1;have HR1:=Lib.hid hr1;clear hx1 hr1;obtain ⟨y0,y1,y2,y3,y4⟩:=HCL.out _ hG1))
   | (go_at_call 19;((with_reducible refine (hnd _).mono ?_);rintro e w2 ⟨rfl,rfl⟩;have ga:=World.grownBy_alloc w1 (.cells #[.int .u64 q0,.int .u64 q1,.bool q2,.int .i64 q3,.int .u64 q4] 81) none;have ba:=Yab w1 (.cells #[.int .u64 q0,.int .u64 q1,.bool q2,.int .i64 q3,.int .u64 q4] 81);obtain ⟨W2,hW2⟩:∃ W2,w1.alloc (.cells #[.int .u64 q0,.int .u64 q1,.bool q2,.int .i64 q3,.int .u64 q4] 81)=W2:=⟨_,rfl⟩;obtain ⟨ub,hub⟩:∃ ub,w1.heap.size=ub:=⟨_,rfl⟩;rw [hW2] at ga ba ⊢;rw [hub] at ba ⊢;have hx1:=(ga.block _ (lt_of_block HX1.out) (by simp)).trans HX1.out;have hr1:=(ga.block _ (lt_of_block HR1.out) (by simp)).trans HR1.out;replace hG1:=Yaa hG1 ga;clear hW2 hub ga a1 y0 y1 y2 y3 y4;obtain ⟨d0,d1,d2,d3,d4⟩:=Yaw ba;obtain ⟨⟨a0,a1,a2,a3,a4,a5,a6,a7,a8,a9⟩,_⟩:=Yaq hx1;obtain ⟨⟨r0,r1,r2,r3,r4,r5,r6,r7,r8,r9⟩,rf⟩:=Yaq hr1;have rf0:=rf 0 (by decide);have rf1:=rf 1 (by decide);have rf2:=rf 2 (by decide);have rf3:=rf 3 (by decide);have rf4:=rf 4 (by decide);have rf5:=rf 5 (by decide);have rf6:=rf 6 (by decide);have rf7:=rf 7 (by decide);have rf8:=rf 8 (by decide);have rf9:=rf 9 (by decide);clear rf)))
  obtain ⟨P11,Q11⟩:=Yb8 (E:=E) (la:=some ⟨bb,off,none⟩) (n:=N) (c:=c) (va:=va) (ln:=ln) (vc:=vc) hr1
  obtain ⟨W11,hW11⟩:∃ W11,Ycx W2 (w.heap.size+1) E (some ⟨bb,off,none⟩) N c va ln vc=W11:=⟨_,rfl⟩
  unfold Ycx at hW11 P11 Q11
  rw [hW11] at P11 Q11 ⊢
  obtain ⟨⟨b0,b1,b2,b3,b4,b5,b6,b7,b8,b9⟩,_⟩:=Yaq P11
  refine bodyPost_ret (v:=.tuple #[Ya1 E (.slice (some ⟨bb,off,none⟩) N c) (fun c=>.slice (va c) (ln c) (vc c)),.int .i64 1]) (by simp [results,Tryz.results108,go_sem,Ya1,b0,b1,b2,b3,b4,b5,b6,b7,b8,b9]) rfl ?_
  exact ⟨rfl,Yap (Yaa (Yam hG1 _) Q11) (Nat.le_succ _)⟩
end
end Go.Proofs.YtfhiljglfhekdaaGreat
