/-
  Texts of one layer, one behind the other: memory, contracts of the functions, and what follows of them.
  Conditions: as each theorem says.
-/
import Derived.Test.YtcbdbflgfhbikaaGreatLRed
import Derived.Test.YtcbdbflgfhbikaaGreatLPhc
set_option linter.unusedVariables false
set_option linter.unusedSimpArgs false
namespace Go.Proofs.YtcbdbflgfhbikaaGreat
open Go.RowKit
set_option maxRecDepth 100000
structure Nb (w:World) (T:Nat) (R:Option Nat) (off:Nat) (bs:List Blk) (la:Option Addr) (n c lb ob tb:Nat):Prop where
 len:bs.length=n
 few:n≤1000000
 row:∃ base,OwnB w base 45 (.slice la n c) bs
 lbox:w.heap[lb]?=some (.cells #[.slice la n c] 68 (0,0))
 obox:KW w R 0 (.slice (some ⟨ob,0,none⟩) 1 1) [off]
 tbox:w.heap[tb]?=some (.cells #[.pointer (some ⟨T,0,none⟩)] 25 (0,0))
section
variable {w0 w w':World} {T M:Nat} {R R':Option Nat} {B D:Nat} {ws:List Nat} {l:List (Nat × Nat)} {off n c lb ob tb:Nat} {bs:List Blk} {la:Option Addr} {ls:List Nat} {x:Blk}
theorem Nb.later (h:Nb w T R off bs la n c lb ob tb) (hg:w.grownBy w' none):Nb w' T R off bs la n c lb ob tb:=by
 obtain ⟨base,h1⟩:=h.row
 exact ⟨h.len,h.few,⟨base,h1.later hg⟩,(hg.block _ (lt_of_block h.lbox) (by simp)).trans h.lbox,h.obox.later hg,(hg.block _ (lt_of_block h.tbox) (by simp)).trans h.tbox⟩
theorem Keep.blks' {base:Nat} {t:TypeId} {v:Value} {l:List Blk} (K:Keep w R w' R') (h:OwnB w base t v l) (h1:t≠96) (h2:t≠23):OwnB w' base t v l:=by
 refine ⟨h.1,?_⟩
 rcases h.2 with hn|⟨g,cap,cur,rfl,hb,hgg,rest⟩
 ·exact .inl hn
 ·exact .inr ⟨g,cap,cur,rfl,hb,K.far hgg h1 h2,rest⟩
theorem Nb.step (h:Nb w T R off bs la n c lb ob tb) (K:Keep w R w' R'):Nb w' T R' off bs la n c lb ob tb:=by
 obtain ⟨base,h1⟩:=h.row
 exact ⟨h.len,h.few,⟨base,K.blks' h1 (by decide) (by decide)⟩,K.far h.lbox (by decide) (by decide),K.row h.obox,K.far h.tbox (by decide) (by decide)⟩
theorem Nb.cells (h:Nb w T R off bs la n c lb ob tb):w.cell? ⟨lb,0,none⟩=some (.slice la n c)∧w.cell? ⟨ob,0,none⟩=some (.int .u64 off)∧w.cell? ⟨tb,0,none⟩=some (.pointer (some ⟨T,0,none⟩)) :=
 ⟨cell_of_one h.lbox,OwnW.at_ (ws:=[off]) h.obox.1 0 (Nat.succ_pos 0),cell_of_one h.tbox⟩
theorem Nb.at_ (h:Nb w T R off bs la n c lb ob tb):BlksAt w la bs:=by
 obtain ⟨base,h1⟩:=h.row
 obtain ⟨la',c',e,h2⟩:=h1.at_
 injection e with e1 e2 e3
 rw [e1]
 exact h2
theorem box_own {b:Nat} (hb:w.heap[b]?=some (.cells #[.int .u64 off] 23 (0,0))):OwnW w 0 (.slice (some ⟨b,0,none⟩) 1 1) [off] :=
 ⟨rfl,.inr ⟨b,1,_,rfl,Nat.zero_le _,hb,Nat.le_refl _,by decide,rfl,rfl⟩⟩
theorem HeapF.heapW {l:List (Nat × Nat)} {E:Nat} (h:HeapF (txSee ws l) E bs) (hws:8*ws.length=4800):Heap ws l bs 0:=by
 obtain ⟨h1,h2,h3⟩:=h.told.walks h.top
 refine ⟨.inr ⟨headOk_chk hws h.head,bs.length,true,h1,by unfold wkL;rw [if_pos rfl,h2],rfl⟩,?_⟩
 exact walks_small (by omega) (headOk_chk hws h.head) h1
theorem neighbours_any (h:Txs w0 w T M R B D ws l) (hb:Heap ws l bs 0) (off:Nat) :
  Calls Tryz.prog 69 #[.pointer (some ⟨T,0,none⟩),.int .u64 off] w fun e w'=>∃ la n c lb ob tb,e=.returned (.func (.func 119) #[] #[.pointer (some ⟨lb,0,none⟩),.pointer (some ⟨ob,0,none⟩),.pointer (some ⟨tb,0,none⟩)])∧Nb w' T R off bs la n c lb ob tb∧w.grownBy w' none:=by
 have ga:=World.grownBy_alloc w (.cells #[.pointer (some ⟨T,0,none⟩)] 25) none
 have gb:=World.grownBy_alloc (w.alloc (.cells #[.pointer (some ⟨T,0,none⟩)] 25)) (.cells #[.int .u64 off] 23) none
 have ba:=heap_alloc_new' w (.cells #[.pointer (some ⟨T,0,none⟩)] 25)
 have bb:=heap_alloc_new' (w.alloc (.cells #[.pointer (some ⟨T,0,none⟩)] 25)) (.cells #[.int .u64 off] 23)
 rw [World.size_alloc] at bb
 have hwk:=pwalk_any (h.tx.later (grown_trans ga gb)) hb
 have hnR:∀ g,some (w.heap.size+1)=some g→R≠some g:=fun g e1 e2=>by
  injection e1 with e1
  have:=h.tx.ltR e2
  omega
 go_enter Tryz.func69,Tryz.ntmps69
 go_wp2_with (first|(go_at_call 24;refine hwk.mono ?_;rintro e w1 ⟨v,rfl,ho1,hg1⟩;obtain ⟨la,c,hv,hat⟩:=ho1.at_;subst hv))
 go_ret
 have gc:=World.grownBy_alloc w1 (.cells #[.slice la bs.length c] 68) none
 have bc:=heap_alloc_new' w1 (.cells #[.slice la bs.length c] 68)
 refine ⟨la,_,c,_,_,_,rfl,⟨rfl,hb.len,⟨_,ho1.later gc⟩,bc,⟨box_own ?_,hnR⟩,?_⟩,grown_trans ga (grown_trans gb (grown_trans hg1 gc))⟩
 ·exact ((grown_trans hg1 gc).block _ (lt_of_block bb) (by simp)).trans bb
 ·exact ((grown_trans gb (grown_trans hg1 gc)).block _ (lt_of_block ba) (by simp)).trans ba
theorem takeAfter_no (h:Nb w T R off bs la n c lb ob tb) (hno:∀ y,besN (pO off) bs 1=some y→y.u=true) :
  Calls Tryz.prog 119 #[.func (.func 70) #[] #[],.pointer (some ⟨lb,0,none⟩),.pointer (some ⟨ob,0,none⟩),.pointer (some ⟨tb,0,none⟩)] w fun e w'=>e=.returned (.int .u64 0)∧w.grownBy w' none:=by
 have hs:=after_any (c:=c) h.at_ (by rw [h.len];exact h.few) off
 rw [h.len] at hs
 obtain ⟨c0,c1,c2⟩:=h.cells
 clear h
 cases e:besN (pO off) bs 1 with
 | none =>
  have e2:besB (pO off) bs 1=Blk.none:=by unfold besB;rw [e];rfl
  rw [e2,e] at hs
  have hs:Calls Tryz.prog 70 #[.slice la n c,.int .u64 off] w fun e w'=>e=.returned (.tuple #[.agg #[.int .u64 0,.int .u64 0,.bool false,.int .i64 0,.int .u64 0],.bool false])∧w.grownBy w' none:=hs
  clear hno e e2
  go_enter Tryz.func119,Tryz.ntmps119
  go_wp2_with (first|(go_at_call 70;(with_reducible refine hs.mono ?_);rintro e w1 ⟨rfl,hg1⟩))
  go_ret
  exact ⟨rfl,grown_trans hg1 (World.grownBy_alloc _ _ _)⟩
 | some y =>
  have hy:=hno y e
  have e2:besB (pO off) bs 1=y:=by unfold besB;rw [e];rfl
  rw [e2,e] at hs
  have hs:Calls Tryz.prog 70 #[.slice la n c,.int .u64 off] w fun e w'=>e=.returned (.tuple #[.agg #[.int .u64 (y.off:Nat),.int .u64 (y.s:Nat),.bool y.u,.int .i64 y.o,.int .u64 (y.n:Nat)],.bool true])∧w.grownBy w' none:=hs
  rw [hy] at hs
  clear hno e e2
  go_enter Tryz.func119,Tryz.ntmps119
  go_wp2_with (first|(go_at_call 70;(with_reducible refine hs.mono ?_);rintro e w1 ⟨rfl,hg1⟩))
  go_ret
  exact ⟨rfl,grown_trans hg1 (World.grownBy_alloc _ _ _)⟩
theorem takeAfter_yes (X:Txs w0 w T M R B D ws l) (hws:8*ws.length=4800) (hH:Hung (txSee ws l) ls) (hx:x.off∈ls) (hu:x.u=false) (h:Nb w T R off bs la n c lb ob tb) (hbe:besN (pO off) bs 1=some x) :
  Calls Tryz.prog 119 #[.func (.func 70) #[] #[],.pointer (some ⟨lb,0,none⟩),.pointer (some ⟨ob,0,none⟩),.pointer (some ⟨tb,0,none⟩)] w fun e w'=>e=.returned (.int .u64 (x.s:Nat))∧∃ R' l',Txs w0 w' T M R' B D ws l'∧Hung (txSee ws l') (ls.filter fun a=>decide (a≠x.off))∧Kept ls (txSee ws l) (txSee ws l')∧Keep w R w' R':=by
 have hs:=after_any (c:=c) h.at_ (by rw [h.len];exact h.few) off
 rw [h.len] at hs
 have e2:besB (pO off) bs 1=x:=by unfold besB;rw [hbe];rfl
 rw [e2,hbe] at hs
 have hs:Calls Tryz.prog 70 #[.slice la n c,.int .u64 off] w fun e w'=>e=.returned (.tuple #[.agg #[.int .u64 (x.off:Nat),.int .u64 (x.s:Nat),.bool x.u,.int .i64 x.o,.int .u64 (x.n:Nat)],.bool true])∧w.grownBy w' none:=hs
 rw [hu] at hs
 obtain ⟨c0,c1,c2⟩:=h.cells
 have hd:=fun (V:World) (hg:w.grownBy V none)=>hdelete (X.later hg) hws hH hx
 have hcl:∀ {V:World},w.grownBy V none→V.cell? ⟨tb,0,none⟩=some (.pointer (some ⟨T,0,none⟩)):=fun {V} hg=>(h.later hg).cells.2.2
 obtain ⟨x0,x1,x2,x3,x4⟩:=x
 simp only at hs hd ⊢
 clear hH hx hu h hbe e2 X
 go_enter Tryz.func119,Tryz.ntmps119
 go_wp2_with (first
  | (go_at_call 70;(with_reducible refine hs.mono ?_);rintro e w1 ⟨rfl,hg1⟩;have ga:=World.grownBy_alloc w1 (.cells #[.int .u64 (x0:Nat),.int .u64 (x1:Nat),.bool false,.int .i64 x3,.int .u64 (x4:Nat)] 45) none;have ba:=heap_alloc_new' w1 (.cells #[.int .u64 (x0:Nat),.int .u64 (x1:Nat),.bool false,.int .i64 x3,.int .u64 (x4:Nat)] 45);have HA:=Lib.hid ba;clear ba;have t1:=hcl (grown_trans hg1 ga);have hd1:=hd _ (grown_trans hg1 ga))
  | (go_at_call 53;(with_reducible refine hd1.mono ?_);rintro e w2 ⟨rfl,R2,l2,X2,H2,K2,kp2⟩;obtain ⟨d0,d1,d2,d3,d4⟩:=five_cells (kp2.far HA.out (by decide) (by decide))))
 go_ret
 exact ⟨rfl,R2,l2,X2,H2,K2,(Keep.of_grown (grown_trans hg1 ga)).trans kp2⟩
theorem takeBefore_no (h:Nb w T R off bs la n c lb ob tb) (hno:∀ y,besN (pO off) bs (-1)=some y→y.u=true) :
  Calls Tryz.prog 119 #[.func (.func 118) #[] #[],.pointer (some ⟨lb,0,none⟩),.pointer (some ⟨ob,0,none⟩),.pointer (some ⟨tb,0,none⟩)] w fun e w'=>e=.returned (.int .u64 0)∧w.grownBy w' none:=by
 have hs:=before_any (c:=c) h.at_ (by rw [h.len];exact h.few) off
 rw [h.len] at hs
 obtain ⟨c0,c1,c2⟩:=h.cells
 clear h
 cases e:besN (pO off) bs (-1) with
 | none =>
  have e2:besB (pO off) bs (-1)=Blk.none:=by unfold besB;rw [e];rfl
  rw [e2,e] at hs
  have hs:Calls Tryz.prog 118 #[.slice la n c,.int .u64 off] w fun e w'=>e=.returned (.tuple #[.agg #[.int .u64 0,.int .u64 0,.bool false,.int .i64 0,.int .u64 0],.bool false])∧w.grownBy w' none:=hs
  clear hno e e2
  go_enter Tryz.func119,Tryz.ntmps119
  go_wp2_with (first|(go_at_call 118;(with_reducible refine hs.mono ?_);rintro e w1 ⟨rfl,hg1⟩))
  go_ret
  exact ⟨rfl,grown_trans hg1 (World.grownBy_alloc _ _ _)⟩
 | some y =>
  have hy:=hno y e
  have e2:besB (pO off) bs (-1)=y:=by unfold besB;rw [e];rfl
  rw [e2,e] at hs
  have hs:Calls Tryz.prog 118 #[.slice la n c,.int .u64 off] w fun e w'=>e=.returned (.tuple #[.agg #[.int .u64 (y.off:Nat),.int .u64 (y.s:Nat),.bool y.u,.int .i64 y.o,.int .u64 (y.n:Nat)],.bool true])∧w.grownBy w' none:=hs
  rw [hy] at hs
  clear hno e e2
  go_enter Tryz.func119,Tryz.ntmps119
  go_wp2_with (first|(go_at_call 118;(with_reducible refine hs.mono ?_);rintro e w1 ⟨rfl,hg1⟩))
  go_ret
  exact ⟨rfl,grown_trans hg1 (World.grownBy_alloc _ _ _)⟩
theorem takeBefore_yes (X:Txs w0 w T M R B D ws l) (hws:8*ws.length=4800) (hH:Hung (txSee ws l) ls) (hx:x.off∈ls) (hu:x.u=false) (h:Nb w T R off bs la n c lb ob tb) (hbe:besN (pO off) bs (-1)=some x) :
  Calls Tryz.prog 119 #[.func (.func 118) #[] #[],.pointer (some ⟨lb,0,none⟩),.pointer (some ⟨ob,0,none⟩),.pointer (some ⟨tb,0,none⟩)] w fun e w'=>e=.returned (.int .u64 (x.s:Nat))∧∃ R' l',Txs w0 w' T M R' B D ws l'∧Hung (txSee ws l') (ls.filter fun a=>decide (a≠x.off))∧Kept ls (txSee ws l) (txSee ws l')∧Keep w R w' R':=by
 have hs:=before_any (c:=c) h.at_ (by rw [h.len];exact h.few) off
 rw [h.len] at hs
 have e2:besB (pO off) bs (-1)=x:=by unfold besB;rw [hbe];rfl
 rw [e2,hbe] at hs
 have hs:Calls Tryz.prog 118 #[.slice la n c,.int .u64 off] w fun e w'=>e=.returned (.tuple #[.agg #[.int .u64 (x.off:Nat),.int .u64 (x.s:Nat),.bool x.u,.int .i64 x.o,.int .u64 (x.n:Nat)],.bool true])∧w.grownBy w' none:=hs
 rw [hu] at hs
 obtain ⟨c0,c1,c2⟩:=h.cells
 have hd:=fun (V:World) (hg:w.grownBy V none)=>hdelete (X.later hg) hws hH hx
 have hcl:∀ {V:World},w.grownBy V none→V.cell? ⟨tb,0,none⟩=some (.pointer (some ⟨T,0,none⟩)):=fun {V} hg=>(h.later hg).cells.2.2
 obtain ⟨x0,x1,x2,x3,x4⟩:=x
 simp only at hs hd ⊢
 clear hH hx hu h hbe e2 X
 go_enter Tryz.func119,Tryz.ntmps119
 go_wp2_with (first
  | (go_at_call 118;(with_reducible refine hs.mono ?_);rintro e w1 ⟨rfl,hg1⟩;have ga:=World.grownBy_alloc w1 (.cells #[.int .u64 (x0:Nat),.int .u64 (x1:Nat),.bool false,.int .i64 x3,.int .u64 (x4:Nat)] 45) none;have ba:=heap_alloc_new' w1 (.cells #[.int .u64 (x0:Nat),.int .u64 (x1:Nat),.bool false,.int .i64 x3,.int .u64 (x4:Nat)] 45);have HA:=Lib.hid ba;clear ba;have t1:=hcl (grown_trans hg1 ga);have hd1:=hd _ (grown_trans hg1 ga))
  | (go_at_call 53;(with_reducible refine hd1.mono ?_);rintro e w2 ⟨rfl,R2,l2,X2,H2,K2,kp2⟩;obtain ⟨d0,d1,d2,d3,d4⟩:=five_cells (kp2.far HA.out (by decide) (by decide))))
 go_ret
 exact ⟨rfl,R2,l2,X2,H2,K2,(Keep.of_grown (grown_trans hg1 ga)).trans kp2⟩
end
section
variable {w0 w:World} {T M:Nat} {R:Option Nat} {B D:Nat} {ws:List Nat} {l:List (Nat × Nat)} {off:Nat} {ls:List Nat}
theorem rspare_any (h:Txs w0 w T M R B D ws l) (hws:8*ws.length=4800) (hH:Hung (txSee ws l) ls) {s:Nat} (hm:mayP s false 0) (hi:inP (txSee ws l 16) off s) (hE:txSee ws l 16≤4800) (hf:∀ y∈ls,y+48≤off∨off+s≤y) :
  Calls Tryz.prog 71 #[.pointer (some ⟨T,0,none⟩),.int .u64 off,.int .u64 s] w fun e w'=>e=.returned (.tuple #[])∧∃ R' l',Txs w0 w' T M R' B D ws l'∧Hung (txSee ws l') (ls++[off])∧Stay (txSee ws l) (txSee ws l') off (off+s) ls∧(txSee ws l' off=packN s false 0∧txSee ws l' (off+s - 8)=packN s false 0)∧Keep w R w' R':=by
 have hb:=may_bounds hm
 have hi':=hi
 unfold inP at hi'
 have hw1:=hwrite h hws hm hi hE
 have hl:Lone (ls++[off]):=hH.lone.snoc (by omega) fun y hy=>by have:=hf y hy;omega
 have hon:=hH.lone.on
 have hins:∀ (w1:World) (R1:Option Nat) (l1:List (Nat × Nat)),Txs w0 w1 T M R1 B D ws l1→(∀ x,txSee ws l1 x=if x=off∨x=off+s - 8 then packN s false 0 else txSee ws l x)→Calls Tryz.prog 56 #[.pointer (some ⟨T,0,none⟩),.int .u64 off] w1 fun e w'=>e=.returned (.tuple #[])∧∃ R' l',Txs w0 w' T M R' B D ws l'∧Hung (txSee ws l') (ls++[off])∧Stay (txSee ws l) (txSee ws l') off (off+s) ls∧(txSee ws l' off=packN s false 0∧txSee ws l' (off+s - 8)=packN s false 0)∧Keep w1 R1 w' R':=by
  intro w1 R1 l1 X1 e1
  have hH1:Hung (txSee ws l1) ls:=hH.congr (by rw [e1,if_neg (by omega)]) fun x hx=>by
   have:=hf x hx
   have:=hon x hx
   rw [e1,e1,e1,if_neg (by omega),if_neg (by omega),if_neg (by omega)]
   exact ⟨rfl,rfl,rfl⟩
  refine (hinsert X1 hws hH1 hl).mono ?_
  rintro e w' ⟨rfl,R',l',X',hH',hK,K'⟩
  have hfar:∀ y∈ls++[off],y=off∨y+48≤off∨off+s≤y:=fun y hy=>by
   rcases List.mem_append.1 hy with hy|hy
   ·exact .inr (hf y hy)
   ·exact .inl (List.mem_singleton.1 hy)
  refine ⟨rfl,R',l',X',hH',?_,⟨?_,?_⟩,K'⟩
  ·refine Stay.trans (g:=txSee ws l1) (fun x a b c=>by rw [e1,if_neg (by omega)]) ?_
   refine (Stay.of_kept hK).less fun y hy=>?_
   rcases List.mem_append.1 hy with hy|hy
   ·exact .inl hy
   ·rw [List.mem_singleton.1 hy];exact .inr (by omega)
  ·rw [hK off (by omega) (fun y hy=>by have:=hfar y hy;omega),e1,if_pos (.inl rfl)]
  ·rw [hK _ (by omega) (fun y hy=>by have:=hfar y hy;omega),e1,if_pos (.inr rfl)]
 have HINS:=Lib.hid hins
 clear hins hH hm hi hE hf hb hi' hl hon
 go_enter Tryz.func71,Tryz.ntmps71
 go_wp2_with (first|(go_at_call 55;(with_reducible refine hw1.mono ?_);rintro e w1 ⟨rfl,R1,l1,X1,e1,K1⟩;have hin:=HINS.out w1 R1 l1 X1 e1)|(go_at_call 56;(with_reducible refine hin.mono ?_);rintro e w2 ⟨rfl,R2,l2,X2,hH2,hS2,hT2,K2⟩))
 go_end0
 exact ⟨rfl,R2,l2,X2,hH2,hS2,hT2,K1.trans K2⟩
end
end Go.Proofs.YtcbdbflgfhbikaaGreat
namespace Go.Proofs.YtcbdbflgfhbikaaGreat
open Go.RowKit
set_option maxRecDepth 100000
section
variable {w0 w:World} {T M:Nat} {R:Option Nat} {B D:Nat} {ws:List Nat} {l:List (Nat × Nat)} {E:Nat} {bs A C:List Blk} {b:Blk} {L:Nat→List Nat}
set_option maxHeartbeats 4000000 in
theorem free_walk {G1 G2 G3 G4:List (Nat × Nat)→Prop} {p O S N Aa Cc lo sz:Nat} {o:Int} (h:Txs w0 w T M R B D ws l) (ho:0≤o∧o≤8) (hn:lo+Aa=O∧Aa+S+Cc=sz∧O<1000000∧sz<1000000)
  (hfind:Calls Tryz.prog 14 #[.pointer (some ⟨T,0,none⟩),.int .u64 p] w fun e w'=>e=.returned (.tuple #[.agg #[.int .u64 O,.int .u64 S,.bool true,.int .i64 o,.int .u64 N],.bool true])∧w.grownBy w' none)
  (hul:o≠0→∀ V,w.grownBy V none→Calls Tryz.prog 117 #[.pointer (some ⟨T,0,none⟩),.int .i64 (o - 1),.int .u64 O] V fun e w'=>e=.returned (.tuple #[])∧∃ R' l',Txs w0 w' T M R' B D ws l'∧G1 l'∧Keep V R w' R')
  (hnu:o=0→G1 l)
  (hnb:∀ V R1 l1,Txs w0 V T M R1 B D ws l1→G1 l1→Calls Tryz.prog 69 #[.pointer (some ⟨T,0,none⟩),.int .u64 O] V fun e w'=>∃ la n c lb ob tb,e=.returned (.func (.func 119) #[] #[.pointer (some ⟨lb,0,none⟩),.pointer (some ⟨ob,0,none⟩),.pointer (some ⟨tb,0,none⟩)])∧Nb w' T R1 O bs la n c lb ob tb∧V.grownBy w' none)
  (hta:∀ V R1 l1 la n c lb ob tb,Txs w0 V T M R1 B D ws l1→G1 l1→Nb V T R1 O bs la n c lb ob tb→Calls Tryz.prog 119 #[.func (.func 70) #[] #[],.pointer (some ⟨lb,0,none⟩),.pointer (some ⟨ob,0,none⟩),.pointer (some ⟨tb,0,none⟩)] V fun e w'=>e=.returned (.int .u64 Cc)∧∃ R' l',Txs w0 w' T M R' B D ws l'∧G2 l'∧Keep V R1 w' R')
  (htb:∀ V R1 l1 la n c lb ob tb,Txs w0 V T M R1 B D ws l1→G2 l1→Nb V T R1 O bs la n c lb ob tb→Calls Tryz.prog 119 #[.func (.func 118) #[] #[],.pointer (some ⟨lb,0,none⟩),.pointer (some ⟨ob,0,none⟩),.pointer (some ⟨tb,0,none⟩)] V fun e w'=>e=.returned (.int .u64 Aa)∧∃ R' l',Txs w0 w' T M R' B D ws l'∧G3 l'∧Keep V R1 w' R')
  (hsp:∀ V R1 l1,Txs w0 V T M R1 B D ws l1→G3 l1→Calls Tryz.prog 71 #[.pointer (some ⟨T,0,none⟩),.int .u64 lo,.int .u64 sz] V fun e w'=>e=.returned (.tuple #[])∧∃ R' l',Txs w0 w' T M R' B D ws l'∧G4 l'∧Keep V R1 w' R') :
  Calls Tryz.prog 65 #[.pointer (some ⟨T,0,none⟩),.int .u64 p] w fun e w'=>e=.returned (.int .i64 0)∧∃ R' l',Txs w0 w' T M R' B D ws l'∧G4 l'∧Keep w R w' R':=by
 have e1:IntKind.u64.wrap ((O:Int) - (Aa:Int))=(lo:Nat):=by rw [IntKind.wrap_u64];omega
 obtain ⟨sm,esm⟩:∃ sm,Aa+S=sm:=⟨_,rfl⟩
 have e2:IntKind.u64.wrap ((Aa:Int)+(S:Int))=(sm:Nat):=by rw [IntKind.wrap_u64];omega
 have e3:IntKind.u64.wrap ((sm:Int)+(Cc:Int))=(sz:Nat):=by rw [IntKind.wrap_u64];omega
 have eo:IntKind.i64.wrap (o - 1)=o - 1:=by rw [IntKind.wrap_i64];omega
 have HNB:=Lib.hid hnb
 have HTA:=Lib.hid hta
 have HTB:=Lib.hid htb
 have HSP:=Lib.hid hsp
 have HX:=Lib.hid h
 clear hnb hta htb hsp h hn esm
 by_cases h0:o=0
 ·have G:=hnu h0
  have HG:=Lib.hid G
  subst h0
  clear hul hnu G eo ho
  go_enter Tryz.func65,Tryz.ntmps65
  go_wp2_with (first
   | (go_at_call 14;(with_reducible refine hfind.mono ?_);rintro e w1 ⟨rfl,hg1⟩;have ga:=World.grownBy_alloc w1 (.cells #[.int .u64 O,.int .u64 S,.bool true,.int .i64 0,.int .u64 N] 45) none;have ba:=heap_alloc_new' w1 (.cells #[.int .u64 O,.int .u64 S,.bool true,.int .i64 0,.int .u64 N] 45);obtain ⟨d0,d1,d2,d3,d4⟩:=five_cells ba;have HA:=Lib.hid ba;clear ba;have X1:=HX.out.later (grown_trans hg1 ga);have K1:Keep w R (w1.alloc (.cells #[.int .u64 O,.int .u64 S,.bool true,.int .i64 0,.int .u64 N] 45)) R:=Keep.of_grown (grown_trans hg1 ga);have hn1:=HNB.out _ _ _ X1 HG.out)
   | (go_at_call 69;(with_reducible refine hn1.mono ?_);rintro e w3 ⟨la,n,c,lb,ob,tb,rfl,N3,hg3⟩;have b3:=(hg3.block _ (lt_of_block HA.out) (by simp)).trans HA.out;obtain ⟨d0,d1,d2,d3,d4⟩:=five_cells b3;have HA3:=Lib.hid b3;clear b3;have X3:=X1.later hg3;have K3:=K1.trans (Keep.of_grown hg3);have ht3:=HTA.out _ _ _ _ _ _ _ _ _ X3 HG.out N3)
   | (go_at_call 119;(with_reducible refine ht3.mono ?_);rintro e w4 ⟨rfl,R4,l4,X4,G4,kp4⟩;have b4:=kp4.far HA3.out (by decide) (by decide);obtain ⟨d0,d1,d2,d3,d4⟩:=five_cells b4;have HA4:=Lib.hid b4;clear b4;have K4:=K3.trans kp4;have ht4:=HTB.out _ _ _ _ _ _ _ _ _ X4 G4 (N3.step kp4))
   | (go_at_call 119;(with_reducible refine ht4.mono ?_);rintro e w5 ⟨rfl,R5,l5,X5,G5,kp5⟩;have b5:=kp5.far HA4.out (by decide) (by decide);obtain ⟨d0,d1,d2,d3,d4⟩:=five_cells b5;clear b5;have K5:=K4.trans kp5;have hs5:=HSP.out _ _ _ X5 G5)
   | (go_at_call 71;(with_reducible refine hs5.mono ?_);rintro e w6 ⟨rfl,R6,l6,X6,G6,kp6⟩))
  go_ret
  exact ⟨rfl,R6,l6,X6,G6,K5.trans kp6⟩
 ·have hu2:=hul h0
  have h1:0<o:=by omega
  have HUL:=Lib.hid hu2
  clear hul hnu hu2 ho
  go_enter Tryz.func65,Tryz.ntmps65
  go_wp2_with (first
   | (go_at_call 14;(with_reducible refine hfind.mono ?_);rintro e w1 ⟨rfl,hg1⟩;have ga:=World.grownBy_alloc w1 (.cells #[.int .u64 O,.int .u64 S,.bool true,.int .i64 o,.int .u64 N] 45) none;have ba:=heap_alloc_new' w1 (.cells #[.int .u64 O,.int .u64 S,.bool true,.int .i64 o,.int .u64 N] 45);obtain ⟨d0,d1,d2,d3,d4⟩:=five_cells ba;have HA:=Lib.hid ba;clear ba;have K1:Keep w R (w1.alloc (.cells #[.int .u64 O,.int .u64 S,.bool true,.int .i64 o,.int .u64 N] 45)) R:=Keep.of_grown (grown_trans hg1 ga);have hu1:=HUL.out _ (grown_trans hg1 ga))
   | (go_at_call 117;(with_reducible refine hu1.mono ?_);rintro e w2 ⟨rfl,R2,l2,X2,G2,kp2⟩;have b2:=kp2.far HA.out (by decide) (by decide);obtain ⟨d0,d1,d2,d3,d4⟩:=five_cells b2;have HA2:=Lib.hid b2;clear b2;have K2:=K1.trans kp2;have hn1:=HNB.out _ _ _ X2 G2)
   | (go_at_call 69;(with_reducible refine hn1.mono ?_);rintro e w3 ⟨la,n,c,lb,ob,tb,rfl,N3,hg3⟩;have b3:=(hg3.block _ (lt_of_block HA2.out) (by simp)).trans HA2.out;obtain ⟨d0,d1,d2,d3,d4⟩:=five_cells b3;have HA3:=Lib.hid b3;clear b3;have X3:=X2.later hg3;have K3:=K2.trans (Keep.of_grown hg3);have ht3:=HTA.out _ _ _ _ _ _ _ _ _ X3 G2 N3)
   | (go_at_call 119;(with_reducible refine ht3.mono ?_);rintro e w4 ⟨rfl,R4,l4,X4,G4,kp4⟩;have b4:=kp4.far HA3.out (by decide) (by decide);obtain ⟨d0,d1,d2,d3,d4⟩:=five_cells b4;have HA4:=Lib.hid b4;clear b4;have K4:=K3.trans kp4;have ht4:=HTB.out _ _ _ _ _ _ _ _ _ X4 G4 (N3.step kp4))
   | (go_at_call 119;(with_reducible refine ht4.mono ?_);rintro e w5 ⟨rfl,R5,l5,X5,G5,kp5⟩;have b5:=kp5.far HA4.out (by decide) (by decide);obtain ⟨d0,d1,d2,d3,d4⟩:=five_cells b5;clear b5;have K5:=K4.trans kp5;have hs5:=HSP.out _ _ _ X5 G5)
   | (go_at_call 71;(with_reducible refine hs5.mono ?_);rintro e w6 ⟨rfl,R6,l6,X6,G6,kp6⟩))
  go_ret
  exact ⟨rfl,R6,l6,X6,G6,K5.trans kp6⟩
theorem hunlink {U:List Nat} {c off:Nat} (h:Txs w0 w T M R B D ws l) (hws:8*ws.length=4800) (h2:Ledg U (txSee ws l) L) (hU:Grid U) (hc:c<8) (ho:off∈L c) :
  Calls Tryz.prog 117 #[.pointer (some ⟨T,0,none⟩),.int .i64 c,.int .u64 off] w fun e w'=>e=.returned (.tuple #[])∧∃ R' l',Txs w0 w' T M R' B D ws l'∧(∀ x,txSee ws l' x=unlinkF (txSee ws l) c off x)∧Keep w R w' R':=by
 have hoU:=h2.on c hc off ho
 have o1:=hU.lo off hoU
 obtain ⟨hp,hn⟩:=h2.near hc ho
 have hp':txSee ws l (off+24)≠0→txSee ws l (off+24) % 8=0∧txSee ws l (off+24)+24<4800:=fun e=>by
  have:=hU.lo _ (hp e)
  omega
 have hn':txSee ws l (off+16)≠0→txSee ws l (off+16) % 8=0∧txSee ws l (off+16)+24<4800:=fun e=>by
  have:=hU.lo _ (hn e)
  omega
 refine (unlink_any h hc (by omega) (by omega) (by omega)).mono ?_
 rintro e w' ⟨rfl,R',X,K⟩
 refine ⟨rfl,R',_,X,fun x=>?_,K⟩
 have hs:=slotH_lt hc
 rw [seeH_join hws hc hp' hn']
 unfold unlinkF
 obtain ⟨p,ep⟩:∃ p,txSee ws l (off+24)=p:=⟨_,rfl⟩
 obtain ⟨n,en⟩:∃ n,txSee ws l (off+16)=n:=⟨_,rfl⟩
 rw [ep] at hp hp' ⊢
 rw [en] at hn hn' ⊢
 by_cases e3:n≠0∧x=n+24
 ·have n1:=hU.lo n (hn e3.1)
  rw [if_pos e3,if_neg (fun h=>by omega),if_neg (fun h=>by
   have p1:=hU.lo p (hp h.1)
   by_cases e:p=n
   ·omega
   ·have:=hU.far p (hp h.1) n (hn e3.1) e
    omega),if_pos e3]
 ·rw [if_neg e3]
  by_cases e1:p=0∧x=slotH c
  ·rw [if_pos e1,if_pos e1]
  ·rw [if_neg e1,if_neg e1]
   by_cases e2:p≠0∧x=p+16
   ·rw [if_pos e2,if_pos e2]
   ·rw [if_neg e2,if_neg e2,if_neg e3]
theorem take_behind {f1:Nat→Nat} (X:Txs w0 w T M R B D ws l) (hws:8*ws.length=4800) (hT:Told f1 E 3776 (A++b::C) E) (hE:E≤4800) (hu:b.u=true) (hH:Hung (txSee ws l) (freesB A++freesB C)) {la:Option Addr} {n c lb ob tb:Nat} (h:Nb w T R b.off (A++b::C) la n c lb ob tb) :
  Calls Tryz.prog 119 #[.func (.func 70) #[] #[],.pointer (some ⟨lb,0,none⟩),.pointer (some ⟨ob,0,none⟩),.pointer (some ⟨tb,0,none⟩)] w fun e w'=>e=.returned (.int .u64 (addC C:Nat))∧∃ R' l',Txs w0 w' T M R' B D ws l'∧(Kept (freesB A++freesB C) (txSee ws l) (txSee ws l')∧Hung (txSee ws l') (freesB A++freesB (rgtC C)))∧Keep w R w' R':=by
 have ha:=after_is hT
 rcases right_cases C with ⟨e1,e2,e3⟩|⟨x,r,e0,hx,e1,e2⟩
 ·rw [e1,e2]
  refine (takeAfter_no h fun y hy=>e3 y (by rw [← ha];exact hy)).mono ?_
  rintro e w' ⟨rfl,hg⟩
  exact ⟨rfl,R,l,X.later hg,⟨fun _ _ _=>rfl,hH⟩,Keep.of_grown hg⟩
 ·have hin:x.off∈freesB A++freesB C:=List.mem_append_right _ (freesB_mem.2 ⟨x,by rw [e0];simp,hx,rfl⟩)
  have hfl:=frees_behind hT hE hu e0 hx
  refine (takeAfter_yes X hws hH hin hx h (by rw [ha,e0];rfl)).mono ?_
  rintro e w' ⟨rfl,R',l',X',H',K',kp⟩
  rw [hfl] at H'
  rw [e1,e2]
  exact ⟨rfl,R',l',X',⟨K',H'⟩,kp⟩
theorem take_ahead {f1:Nat→Nat} (X:Txs w0 w T M R B D ws l) (hws:8*ws.length=4800) (hT:Told f1 E 3776 (A++b::C) E) (hE:E≤4800) (hu:b.u=true) (hH:Hung (txSee ws l) (freesB A++freesB (rgtC C))) {la:Option Addr} {n c lb ob tb:Nat} (h:Nb w T R b.off (A++b::C) la n c lb ob tb) :
  Calls Tryz.prog 119 #[.func (.func 118) #[] #[],.pointer (some ⟨lb,0,none⟩),.pointer (some ⟨ob,0,none⟩),.pointer (some ⟨tb,0,none⟩)] w fun e w'=>e=.returned (.int .u64 (addA A:Nat))∧∃ R' l',Txs w0 w' T M R' B D ws l'∧(Kept (freesB A++freesB (rgtC C)) (txSee ws l) (txSee ws l')∧Hung (txSee ws l') (freesB (lftA A)++freesB (rgtC C)))∧Keep w R w' R':=by
 have ha:=before_is hT
 rcases left_cases A b.off with ⟨e1,_,e2,e3⟩|⟨Z,x,e0,hx,e1,_,e2⟩
 ·rw [e1,e2]
  refine (takeBefore_no h fun y hy=>e3 y (by rw [← ha];exact hy)).mono ?_
  rintro e w' ⟨rfl,hg⟩
  exact ⟨rfl,R,l,X.later hg,⟨fun _ _ _=>rfl,hH⟩,Keep.of_grown hg⟩
 ·have hin:x.off∈freesB A++freesB (rgtC C):=List.mem_append_left _ (freesB_mem.2 ⟨x,by rw [e0];simp,hx,rfl⟩)
  have hfl:=frees_ahead hT hE hu e0 hx
  refine (takeBefore_yes X hws hH hin hx h (by rw [ha,e0,List.getLast?_concat])).mono ?_
  rintro e w' ⟨rfl,R',l',X',H',K',kp⟩
  rw [hfl] at H'
  rw [e1,e2]
  exact ⟨rfl,R',l',X',⟨K',H'⟩,kp⟩
theorem hfree_ok (h:Txs w0 w T M R B D ws l) (hws:8*ws.length=4800) (hS:SoundF (txSee ws l) E (A++b::C) L) (hu:b.u=true)
  (hfind:Calls Tryz.prog 14 #[.pointer (some ⟨T,0,none⟩),.int .u64 (b.off+32:Nat)] w fun e w'=>e=.returned (.tuple #[b.val,.bool true])∧w.grownBy w' none) :
  Calls Tryz.prog 65 #[.pointer (some ⟨T,0,none⟩),.int .u64 (b.off+32:Nat)] w fun e w'=>e=.returned (.int .i64 0)∧∃ R' l',Txs w0 w' T M R' B D ws l'∧(SoundF (txSee ws l') E (lftA A++freeB (lowA A b.off) (addA A+b.s+addC C)::rgtC C) (lstB L b)∧Held (txSee ws l) (txSee ws l') (A++C))∧Keep w R w' R':=by
 have hb:=hS.told.is b (by simp)
 have hm:=may_bounds hb.may
 have hal:=free_al hS.told
 obtain ⟨_,_,_,_,hlo⟩:=free_told hS.told
 have hE:=hS.low
 have hlow:=hb.hi
 obtain ⟨lo,elo⟩:∃ lo,lowA A b.off=lo:=⟨_,rfl⟩
 obtain ⟨sz,esz⟩:∃ sz,addA A+b.s+addC C=sz:=⟨_,rfl⟩
 rw [elo] at hal hlo
 have hF:=hS.heap
 have hAC:∀ x∈A++C,x∈A++b::C:=fun x hx=>by
  rcases List.mem_append.1 hx with h1|h1
  ·exact List.mem_append_left _ h1
  ·exact List.mem_append_right _ (List.mem_cons_of_mem _ h1)
 refine free_walk (bs:=A++b::C) (O:=b.off) (S:=b.s) (N:=b.n) (Aa:=addA A) (Cc:=addC C) (lo:=lo) (sz:=sz) (o:=b.o)
  (G1:=fun l1=>HeapF (txSee ws l1) E (A++b::C)∧Ledg (usedB (A++b::C)) (txSee ws l1) (lstB L b)∧Held (txSee ws l) (txSee ws l1) (A++C))
  (G2:=fun l2=>∃ g,HeapF g E (A++b::C)∧Ledg (usedB (A++b::C)) g (lstB L b)∧Held (txSee ws l) g (A++C)∧Kept (freesB A++freesB C) g (txSee ws l2)∧Hung (txSee ws l2) (freesB A++freesB (rgtC C)))
  (G3:=fun l3=>∃ g,HeapF g E (A++b::C)∧Ledg (usedB (A++b::C)) g (lstB L b)∧Held (txSee ws l) g (A++C)∧Kept (freesB A++freesB C) g (txSee ws l3)∧Hung (txSee ws l3) (freesB (lftA A)++freesB (rgtC C)))
  (G4:=fun l4=>SoundF (txSee ws l4) E (lftA A++freeB (lowA A b.off) (addA A+b.s+addC C)::rgtC C) (lstB L b)∧Held (txSee ws l) (txSee ws l4) (A++C))
  h ⟨hm.2.2.2.1,hm.2.2.2.2.1⟩ ⟨hlo,esz,by omega,by omega⟩ ?find ?unl ?nounl ?nb ?ta ?tb ?sp
 case find =>
  have:=hfind
  unfold Blk.val at this
  rw [hu] at this
  exact this
 case unl =>
  intro h0 V hg
  obtain ⟨hc,hin,hoc⟩:=own_in hS (by simp) hu h0
  have:=hunlink (h.later hg) hws hS.ledg hS.grid hc hin
  rw [show ((b.o.toNat - 1:Nat):Int)=b.o - 1 by omega] at this
  refine this.mono ?_
  rintro e w' ⟨rfl,R',l',X',e1,K⟩
  have hls:=LStay.unlink hS.ledg hc hin e1
  refine ⟨rfl,R',l',X',⟨hF.relist hls,?_,Held.lists hS.told (Nat.le_refl _) hls hAC fun q hq x hx hxu=>?_⟩,K⟩
  ·unfold lstB
   rw [if_neg h0]
   exact hS.ledg.unlink hS.grid hc hin fun x _ _=>e1 x
  ·rcases hS.told.used_far (hAC x hx) hq with k|k
   ·exact .inl k.1
   ·exact .inr k
 case nounl =>
  intro h0
  refine ⟨hF,?_,Held.refl⟩
  unfold lstB
  rw [if_pos h0]
  exact hS.ledg
 case nb=>exact fun V R1 l1 X g=>neighbours_any X (g.1.heapW hws) b.off
 case ta =>
  rintro V R1 l1 la n c lb ob tb X ⟨g1,g2,gh⟩ hN
  have hH:=g1.hung
  rw [frees_amid hu] at hH
  refine (take_behind X hws hS.told hE hu hH hN).mono ?_
  rintro e w' ⟨rfl,R',l',X',⟨k1,k2⟩,K⟩
  exact ⟨rfl,R',l',X',⟨_,g1,g2,gh,k1,k2⟩,K⟩
 case tb =>
  rintro V R1 l1 la n c lb ob tb X ⟨g,g1,g2,gh,g3,g4⟩ hN
  refine (take_ahead X hws hS.told hE hu g4 hN).mono ?_
  rintro e w' ⟨rfl,R',l',X',⟨k1,k2⟩,K⟩
  refine ⟨rfl,R',l',X',⟨g,g1,g2,gh,fun q a c=>(k1 q a fun y hy=>c y ?_).trans (g3 q a c),k2⟩,K⟩
  rcases List.mem_append.1 hy with hy|hy
  ·exact List.mem_append_left _ hy
  ·refine List.mem_append_right _ ?_
   rcases right_cases C with ⟨e1,_⟩|⟨d,r,e0,_,e1,_⟩
   ·rw [e1] at hy;exact hy
   ·rw [e1] at hy;rw [e0,show d::r=[d]++r from rfl,freesB_append];exact List.mem_append_right _ hy
 case sp =>
  rintro V R1 l1 X ⟨g,g1,g2,gh,g3,g4⟩
  have hlon:=hF.freeL.lone
  rw [frees_amid hu] at hlon
  have ht:txSee ws l1 16=E:=(g3 16 (by decide) fun y hy=>by have:=hlon.on y hy;omega).trans g1.top
  have hmay:mayP sz false 0:=may_false (by omega) (by omega) (by omega)
  have hi:inP (txSee ws l1 16) lo sz:=by
   rw [ht]
   unfold inP
   omega
  have hfar:=frees_far hS.told
  rw [elo,esz] at hfar
  refine (rspare_any X hws g4 hmay hi (by omega) fun y hy=>(hfar y hy).2).mono ?_
  rintro e w' ⟨rfl,R',l',X',H',S',⟨p1,p2⟩,K⟩
  have hfi:=frees_in hS.told
  rw [elo,esz] at hfi
  have hst:=Stay.trans (g:=txSee ws l1) ((Stay.of_kept g3).less hfi) S'
  refine ⟨rfl,R',l',X',⟨?_,gh.trans (Held.stay hS.told (Nat.le_refl _) hst hAC (fun y hy=>?_) fun x hx hxu=>?_)⟩,K⟩
  rotate_left
  ·rw [frees_amid hu]
   rcases List.mem_append.1 hy with h1|h1
   ·refine List.mem_append_left _ ?_
    rcases left_cases A b.off with ⟨e1,_⟩|⟨Z,p,e0,_,e1,_⟩
    ·rw [e1] at h1;exact h1
    ·rw [e1] at h1;rw [e0,freesB_append];exact List.mem_append_left _ h1
   ·refine List.mem_append_right _ ?_
    rcases right_cases C with ⟨e1,_⟩|⟨d,r,e0,_,e1,_⟩
    ·rw [e1] at h1;exact h1
    ·rw [e1] at h1;rw [e0,show d::r=[d]++r from rfl,freesB_append];exact List.mem_append_right _ h1
  ·obtain ⟨Y,_,t1,t2,t3⟩:=free_told hS.told
   rw [elo] at t1 t3
   rcases List.mem_append.1 hx with h1|h1
   ·left
    have h2:x∈lftA A:=by
     rcases left_cases A b.off with ⟨e1,_⟩|⟨Z,p,e0,hp,e1,_⟩
     ·rw [e1];exact h1
     ·rw [e1]
      rw [e0] at h1
      rcases List.mem_append.1 h1 with h3|h3
      ·exact h3
      ·rw [List.mem_singleton.1 h3,hp] at hxu;cases hxu
    exact (t1.within x h2).2
   ·right
    have h2:x∈rgtC C:=by
     rcases right_cases C with ⟨e1,_⟩|⟨d,r,e0,hd,e1,_⟩
     ·rw [e1];exact h1
     ·rw [e1]
      rw [e0] at h1
      rcases List.mem_cons.1 h1 with h3|h3
      ·rw [h3,hd] at hxu;cases hxu
      ·exact h3
    have:=(t2.within x h2).1
    omega
  refine freed_sound hS hu g1 g2 ?_ ?_ ?_ ?_
  ·rw [elo,esz]
   exact hst
  ·rw [elo,esz];exact p1
  ·rw [elo,esz];exact p2
  ·rw [elo];exact H'
end
end Go.Proofs.YtcbdbflgfhbikaaGreat
