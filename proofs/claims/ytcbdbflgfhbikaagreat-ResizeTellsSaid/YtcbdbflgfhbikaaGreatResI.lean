/-
  Package resize: the contract of Grow over a heap whose words tell its blocks, the tree of the free ones, and the lists.
  Conditions: the Tx stands in memory, over a segment of 4800 bytes, and its words tell such a heap.
-/
import Derived.Test.YtcbdbflgfhbikaaGreatResG
import Derived.Test.YtcbdbflgfhbikaaGreatLRef
namespace Go.Proofs.YtcbdbflgfhbikaaGreat
open Go.RowKit
set_option linter.unusedVariables false
set_option linter.unusedSimpArgs false
set_option maxRecDepth 100000

section
variable {w0 w:World} {T M:Nat} {R:Option Nat} {B D:Nat} {ws:List Nat} {l:List (Nat × Nat)} {E n:Nat} {bs:List Blk} {L:Nat→List Nat} {f g:Nat→Nat}
theorem BkIs.foot_tag {b:Blk} (h:BkIs f E b):tS (f (b.off+b.s - 8))=b.s∧tU (f (b.off+b.s - 8))=b.u:=by
 obtain ⟨_,p2,p3,p4,_⟩:=unpack_int h.may
 unfold tS tU
 rw [h.foot,if_pos p2,if_pos p2,p3,p4]
 exact ⟨rfl,rfl⟩
/-- what spare tells -/
theorem add_tag (h:SoundF f E bs L):(if tU (f (E - 8)) then 0 else tS (f (E - 8)))=addA bs:=by
 have hT:=h.told
 have hE:=h.head.1
 rw [h.top] at hE
 unfold fitsP at hE
 rcases List.eq_nil_or_concat bs with rfl|⟨X,q,rfl⟩
 ·have:3776=E:=hT
  omega
 ·rw [List.concat_eq_append] at hT ⊢
  obtain ⟨m,h1,h2,h3,h4⟩:=told_append.1 hT
  have h2':q.off=m:=h2
  have h4':m+q.s=E:=h4
  have hk:=h3.foot_tag
  rw [show q.off+q.s - 8=E - 8 by omega] at hk
  rw [hk.1,hk.2]
  unfold addA
  rw [List.getLast?_concat]
set_option maxHeartbeats 4000000 in
/-- Grow, step by step: what each of its calls leaves, it leaves. -/
theorem grow_walk {G1 G2 G3 G4:List (Nat × Nat)→Prop} {add lo hi sz:Nat} (X:Txs w0 w T M R B D ws l) (hws:8*ws.length=4800) (hn:n % 16=0∧48≤n) (hh:E+n=hi∧hi≤4800∧lo+add=E∧lo+sz=hi)
  (hsz:Calls Tryz.prog 22 #[.pointer (some ⟨T,0,none⟩)] w fun e w'=>e=.returned (.int .u64 (E:Nat))∧w.grownBy w' none)
  (hsp:∀ V,w.grownBy V none→Calls Tryz.prog 52 #[.pointer (some ⟨T,0,none⟩),.int .u64 (E:Nat)] V fun e w'=>e=.returned (.int .u64 (add:Nat))∧V.grownBy w' none)
  (hdl:add≠0→∀ V,w.grownBy V none→Calls Tryz.prog 53 #[.pointer (some ⟨T,0,none⟩),.int .u64 (lo:Nat)] V fun e w'=>e=.returned (.bool true)∧∃ R' l',Txs w0 w' T M R' B D ws l'∧G1 l'∧Keep V R w' R')
  (hnd:add=0→G1 l)
  (hrs:∀ V R1 l1,Txs w0 V T M R1 B D ws l1→G1 l1→Calls Tryz.prog 54 #[.pointer (some ⟨T,0,none⟩),.int .u64 (hi:Nat)] V fun e w'=>e=.returned (.tuple #[])∧∃ R' l',Txs w0 w' T M R' B D ws l'∧G2 l'∧Keep V R1 w' R')
  (hwr:∀ V R1 l1,Txs w0 V T M R1 B D ws l1→G2 l1→Calls Tryz.prog 55 #[.pointer (some ⟨T,0,none⟩),.int .u64 (lo:Nat),.agg #[.int .u64 (sz:Nat),.bool false,.int .i64 0]] V fun e w'=>e=.returned (.int .i64 0)∧∃ R' l',Txs w0 w' T M R' B D ws l'∧G3 l'∧Keep V R1 w' R')
  (hin:∀ V R1 l1,Txs w0 V T M R1 B D ws l1→G3 l1→Calls Tryz.prog 56 #[.pointer (some ⟨T,0,none⟩),.int .u64 (lo:Nat)] V fun e w'=>e=.returned (.tuple #[])∧∃ R' l',Txs w0 w' T M R' B D ws l'∧G4 l'∧Keep V R1 w' R') :
  Calls Tryz.prog 20 #[.pointer (some ⟨T,0,none⟩),.int .u64 (n:Nat)] w fun e w'=>e=.returned (.int .i64 0)∧∃ R' l',Txs w0 w' T M R' B D ws l'∧G4 l'∧Keep w R w' R':=by
 have h16:(n:Int) % 16=0:=by omega
 have h48:¬ (n:Int)<48:=by omega
 have hadd:=fun V=>add_low E n (by omega) V
 have htx:=fun (V:World) (hg:w.grownBy V none)=>txsize_any (X.later hg).tx
 rw [hws] at htx
 have htx':∀ V,w.grownBy V none→Calls Tryz.prog 51 #[.pointer (some ⟨T,0,none⟩)] V fun e w'=>e=.returned (.int .u64 4800)∧V=w':=htx
 rw [hh.1] at hadd
 have hle:¬ (4800:Int)<(hi:Int):=by omega
 have e1:IntKind.u64.wrap ((E:Int) - (add:Int))=(lo:Nat):=by rw [IntKind.wrap_u64];omega
 have e2:IntKind.u64.wrap ((hi:Int) - (lo:Int))=(sz:Nat):=by rw [IntKind.wrap_u64];omega
 have HSP:=Lib.hid hsp
 have HRS:=Lib.hid hrs
 have HWR:=Lib.hid hwr
 have HIN:=Lib.hid hin
 have HX:=Lib.hid X
 have HTX:=Lib.hid htx'
 have HH:=Lib.hid hh
 have HADD:=Lib.hid hadd
 clear hsp hrs hwr hin X htx htx' hh hadd hn hws
 by_cases h0:add=0
 ·have HG:=Lib.hid (hnd h0)
  have e0:lo=E:=by have:=HH.out;omega
  subst h0 e0
  clear hdl hnd e1
  go_enter Tryz.func20,Tryz.ntmps20
  go_wp2_with (first
   | (go_at_call 22;(with_reducible refine hsz.mono ?_);rintro e w1 ⟨rfl,hg1⟩)
   | (go_at_call 50;(with_reducible refine (HADD.out _).mono ?_);rintro e w2 ⟨rfl,rfl⟩;have ht1:=HTX.out _ hg1;have hp1:=HSP.out _ hg1)
   | (go_at_call 51;(with_reducible refine ht1.mono ?_);rintro e w3 ⟨rfl,rfl⟩)
   | (go_at_call 52;(with_reducible refine hp1.mono ?_);rintro e w4 ⟨rfl,hg4⟩;have X4:=HX.out.later (grown_trans hg1 hg4);have K4:Keep w R w4 R:=Keep.of_grown (grown_trans hg1 hg4);have hr4:=HRS.out _ _ _ X4 HG.out)
   | (go_at_call 54;(with_reducible refine hr4.mono ?_);rintro e w5 ⟨rfl,R5,l5,X5,G5,kp5⟩;have K5:=K4.trans kp5;have hw5:=HWR.out _ _ _ X5 G5)
   | (go_at_call 55;(with_reducible refine hw5.mono ?_);rintro e w6 ⟨rfl,R6,l6,X6,G6,kp6⟩;have K6:=K5.trans kp6;have hi6:=HIN.out _ _ _ X6 G6)
   | (go_at_call 56;(with_reducible refine hi6.mono ?_);rintro e w7 ⟨rfl,R7,l7,X7,G7,kp7⟩;have K7:=K6.trans kp7))
  go_ret
  exact ⟨rfl,R7,l7,X7,G7,K7⟩
 ·have HDL:=Lib.hid (hdl h0)
  have hpos:(0:Int)<(add:Int):=by omega
  clear hdl hnd h0
  go_enter Tryz.func20,Tryz.ntmps20
  go_wp2_with (first
   | (go_at_call 22;(with_reducible refine hsz.mono ?_);rintro e w1 ⟨rfl,hg1⟩)
   | (go_at_call 50;(with_reducible refine (HADD.out _).mono ?_);rintro e w2 ⟨rfl,rfl⟩;have ht1:=HTX.out _ hg1;have hp1:=HSP.out _ hg1)
   | (go_at_call 51;(with_reducible refine ht1.mono ?_);rintro e w3 ⟨rfl,rfl⟩)
   | (go_at_call 52;(with_reducible refine hp1.mono ?_);rintro e w4 ⟨rfl,hg4⟩;have K3:Keep w R w4 R:=Keep.of_grown (grown_trans hg1 hg4);have hd4:=HDL.out _ (grown_trans hg1 hg4))
   | (go_at_call 53;(with_reducible refine hd4.mono ?_);rintro e w4' ⟨rfl,R4,l4,X4,G4',kp4⟩;have K4:=K3.trans kp4;have hr4:=HRS.out _ _ _ X4 G4')
   | (go_at_call 54;(with_reducible refine hr4.mono ?_);rintro e w5 ⟨rfl,R5,l5,X5,G5,kp5⟩;have K5:=K4.trans kp5;have hw5:=HWR.out _ _ _ X5 G5)
   | (go_at_call 55;(with_reducible refine hw5.mono ?_);rintro e w6 ⟨rfl,R6,l6,X6,G6,kp6⟩;have K6:=K5.trans kp6;have hi6:=HIN.out _ _ _ X6 G6)
   | (go_at_call 56;(with_reducible refine hi6.mono ?_);rintro e w7 ⟨rfl,R7,l7,X7,G7,kp7⟩;have K7:=K6.trans kp7))
  go_ret
  exact ⟨rfl,R7,l7,X7,G7,K7⟩
/-- a free block is laid, and comes into the tree: the words -/
theorem spare_words {f0 f1 f2:Nat→Nat} {ls:List Nat} {off s:Nat} (hs:48≤s) (hf:∀ y∈ls,y+48≤off∨off+s≤y) (h0:3776≤off) (e1:∀ x,f1 x=if x=off∨x=off+s - 8 then packN s false 0 else f0 x) (hK:Kept (ls++[off]) f1 f2) :
  Stay f0 f2 off (off+s) ls∧f2 off=packN s false 0∧f2 (off+s - 8)=packN s false 0:=by
 have hfar:∀ y∈ls++[off],y=off∨y+48≤off∨off+s≤y:=fun y hy=>by
  rcases List.mem_append.1 hy with hy|hy
  ·exact .inr (hf y hy)
  ·exact .inl (List.mem_singleton.1 hy)
 refine ⟨?_,?_,?_⟩
 ·refine Stay.trans (g:=f1) (fun x a b c=>by rw [e1,if_neg (by omega)]) ?_
  refine (Stay.of_kept hK).less fun y hy=>?_
  rcases List.mem_append.1 hy with hy|hy
  ·exact .inl hy
  ·rw [List.mem_singleton.1 hy];exact .inr (by omega)
 ·rw [hK off (by omega) (fun y hy=>by have:=hfar y hy;omega),e1,if_pos (.inl rfl)]
 ·rw [hK _ (by omega) (fun y hy=>by have:=hfar y hy;omega),e1,if_pos (.inr rfl)]
theorem hgrow_ok (X:Txs w0 w T M R B D ws l) (hws:8*ws.length=4800) (hS:SoundF (txSee ws l) E bs L) (hn:n % 16=0∧48≤n) (hE:E+n≤4800) :
  Calls Tryz.prog 20 #[.pointer (some ⟨T,0,none⟩),.int .u64 (n:Nat)] w fun e w'=>e=.returned (.int .i64 0)∧∃ R' l',Txs w0 w' T M R' B D ws l'∧(SoundF (txSee ws l') (E+n) (lftA bs++[freeB (lowA bs E) (addA bs+n)]) L∧Held (txSee ws l) (txSee ws l') bs)∧Keep w R w' R':=by
 obtain ⟨t1,t2,t3,t4,t5,t6⟩:=grow_low hS
 have hhead:=hS.head
 have htop:=hS.top
 have hfl:=hS.freeL
 have hH0:=hS.heap.hung
 have hsub:∀ y∈freesB (lftA bs),y∈freesB bs:=fun y hy=>by
  obtain ⟨b,hb,hu,rfl⟩:=freesB_mem.1 hy
  refine freesB_mem.2 ⟨b,?_,hu,rfl⟩
  rcases left_cases bs E with ⟨e1,_⟩|⟨Z,q,e0,hq,e1,_⟩
  ·rw [e1] at hb;exact hb
  ·rw [e1] at hb;rw [e0];exact List.mem_append_left _ hb
 have hlo:∀ y∈freesB (lftA bs),y+48≤lowA bs E:=fun y hy=>by
  obtain ⟨b,hb,hu,rfl⟩:=freesB_mem.1 hy
  have h1:=(t1.within b hb).2
  have h2:=(t1.is b hb).size
  omega
 have h3776:∀ y∈freesB bs,3776≤y:=fun y hy=>(hfl.on y hy).2.1
 have hall:∀ y∈freesB bs,y∈freesB (lftA bs)∨(y=lowA bs E∧addA bs≠0):=fun y hy=>by
  rcases left_cases bs E with ⟨e1,_⟩|⟨Z,q,e0,hq,e1,e2,e3⟩
  ·rw [e1];exact .inl hy
  ·rw [e1,e2,e3]
   rw [e0,freesB_append] at hy
   rcases List.mem_append.1 hy with h1|h1
   ·exact .inl h1
   ·obtain ⟨b,hb,hu,rfl⟩:=freesB_mem.1 h1
    rw [List.mem_singleton.1 hb]
    have:=(hS.told.is q (by rw [e0];simp)).size
    exact .inr ⟨rfl,by omega⟩
 obtain ⟨lo,elo⟩:∃ lo,lowA bs E=lo:=⟨_,rfl⟩
 obtain ⟨ad,ead⟩:∃ ad,addA bs=ad:=⟨_,rfl⟩
 have hadd:=add_tag hS
 rw [ead] at hadd t2 t5 hall ⊢
 rw [elo] at t1 t2 t3 t4 hlo hall ⊢
 obtain ⟨f,ef⟩:∃ f,txSee ws l=f:=⟨_,rfl⟩
 rw [ef] at hS hhead htop hadd hH0 t1 ⊢
 have hmay:mayP (ad+n) false 0:=by
  unfold mayP
  refine ⟨by omega,by omega,by omega,by decide,by decide,.inr rfl⟩
 obtain ⟨sm,esm⟩:∃ sm,sumN (E+n)=sm:=⟨_,rfl⟩
 refine grow_walk (add:=ad) (lo:=lo) (hi:=E+n) (sz:=ad+n)
  (G1:=fun l1=>Kept (freesB bs) f (txSee ws l1)∧Hung (txSee ws l1) (freesB (lftA bs)))
  (G2:=fun l2=>∃ g:Nat→Nat,Kept (freesB bs) f g∧(∀ x,txSee ws l2 x=if x=40 then sm else if x=16 then E+n else g x)∧Hung (txSee ws l2) (freesB (lftA bs)))
  (G3:=fun l3=>∃ g g2:Nat→Nat,Kept (freesB bs) f g∧(∀ x,g2 x=if x=40 then sm else if x=16 then E+n else g x)∧(∀ x,txSee ws l3 x=if x=lo∨x=lo+(ad+n) - 8 then packN (ad+n) false 0 else g2 x)∧Hung (txSee ws l3) (freesB (lftA bs)))
  (G4:=fun l4=>SoundF (txSee ws l4) (E+n) (lftA bs++[freeB lo (ad+n)]) L∧Held f (txSee ws l4) bs)
  X hws hn ⟨rfl,hE,t2,by omega⟩ ?size ?sp ?del ?nodel ?res ?wr ?ins
 case size =>
  have:=hsize_any X.tx
  rw [ef,htop] at this
  exact this
 case sp =>
  intro V hg
  have:=rzspare_any (X.later hg).tx (off:=E) (v:=f (E - 8)) (by have:=hhead.1;rw [htop] at this;unfold fitsP at this;omega) (by omega) (by rw [ef])
  rw [hadd] at this
  exact this
 case del =>
  intro hne V hg
  rcases left_cases bs E with ⟨e1,e2,e3,_⟩|⟨Z,q,e0,hq,e1,e2,e3⟩
  ·rw [ead] at e3;exact absurd e3 hne
  ·have hin:lo∈freesB bs:=freesB_mem.2 ⟨q,by rw [e0];simp,hq,by rw [← elo,e2]⟩
   have hH1:Hung (txSee ws l) (freesB bs):=by rw [ef];exact hH0
   refine (hdelete (X.later hg) hws hH1 hin).mono ?_
   rintro e w' ⟨rfl,R',l',X',H',K',kp⟩
   rw [ef] at K'
   have hfil:((freesB bs).filter fun a=>decide (a≠lo))=freesB (lftA bs):=by
    rw [e1,e0,freesB_append,List.filter_append]
    have h2:freesB [q]=[lo]:=by unfold freesB;rw [List.filter_cons,hq];simp [← elo,e2]
    rw [h2,List.filter_cons,if_neg (by simp),List.filter_nil,List.append_nil]
    refine List.filter_eq_self.2 fun y hy=>decide_eq_true ?_
    have:=hlo y (by rw [e1];exact hy)
    omega
   rw [hfil] at H'
   exact ⟨rfl,R',l',X',⟨K',H'⟩,kp⟩
 case nodel =>
  intro h0
  rw [ef]
  refine ⟨Kept.refl,?_⟩
  rcases left_cases bs E with ⟨e1,e2,e3,_⟩|⟨Z,q,e0,hq,e1,e2,e3⟩
  ·rw [e1];exact hH0
  ·rw [ead] at e3
   have:=(hS.told.is q (by rw [e0];simp)).size
   omega
 case res =>
  rintro V R1 l1 X1 ⟨hK,hH⟩
  have hr:=hresize_any X1.tx (E+n) (by omega)
  rw [esm] at hr
  refine hr.mono ?_
  rintro e w' ⟨rfl,ht⟩
  obtain ⟨R',X',K'⟩:=step_keep X1 ht
  have hsee:∀ x,txSee ws (txStore ws (txStore ws l1 16 (E+n)) 40 (sm)) x=if x=40 then sm else if x=16 then E+n else txSee ws l1 x:=fun x=>by
   rw [see_off hws (by decide) (by decide),see_off hws (by decide) (by decide)]
  refine ⟨rfl,R',_,X',⟨txSee ws l1,hK,hsee,hH.congr (by rw [hsee,if_neg (by decide),if_neg (by decide)]) fun x hx=>?_⟩,K'⟩
  have:=h3776 x (hsub x hx)
  rw [hsee,hsee,hsee,if_neg (by omega),if_neg (by omega),if_neg (by omega),if_neg (by omega),if_neg (by omega),if_neg (by omega)]
  exact ⟨rfl,rfl,rfl⟩
 case wr =>
  rintro V R1 l1 X1 ⟨g,hK,hg2,hH⟩
  have h16:txSee ws l1 16=E+n:=by rw [hg2,if_neg (by decide),if_pos rfl]
  refine (hwrite (off:=lo) X1 hws hmay (by rw [h16];unfold inP;omega) (by omega)).mono ?_
  rintro e w' ⟨rfl,R',l',X',hsee,K'⟩
  refine ⟨rfl,R',l',X',⟨g,txSee ws l1,hK,hg2,hsee,hH.congr (by rw [hsee,if_neg (by omega)]) fun x hx=>?_⟩,K'⟩
  have h1:=hlo x hx
  rw [hsee,hsee,hsee,if_neg (by omega),if_neg (by omega),if_neg (by omega)]
  exact ⟨rfl,rfl,rfl⟩
 case ins =>
  rintro V R1 l1 X1 ⟨g,g2,hK,hg2,hsee,hH⟩
  have hl:Lone (freesB (lftA bs)++[lo]):=hH.lone.snoc (by omega) fun y hy=>.inl (hlo y hy)
  refine (hinsert X1 hws hH hl).mono ?_
  rintro e w' ⟨rfl,R',l',X',hH',hK',K'⟩
  obtain ⟨s1,s2,s3⟩:=spare_words (by omega) (fun y hy=>.inl (hlo y hy)) t4 hsee hK'
  rw [show lo+(ad+n)=E+n by omega] at s1 s3
  have hst:∀ x,(x<lo∨E+n≤x)→x≠16→x≠40→x≠32→(∀ y∈freesB (lftA bs),x≠y+8∧x≠y+16)→txSee ws l' x=f x:=fun x a b c d e=>by
   rw [s1 x a d e,hg2,if_neg c,if_neg b]
   refine hK x d fun y hy=>?_
   rcases hall y hy with h1|⟨rfl,_⟩
   ·exact e y h1
   ·omega
  have hlow:∀ x,x<48→x≠32→txSee ws l' x=g2 x:=fun x a b=>s1 x (by omega) b fun y hy=>by have:=h3776 y (hsub y hy);omega
  have hg:∀ x,x<48→x≠32→x≠16→x≠40→txSee ws l' x=f x:=fun x a b c d=>hst x (by omega) c d b fun y hy=>by have:=h3776 y (hsub y hy);omega
  have h16:txSee ws l' 16=E+n:=by rw [hlow 16 (by decide) (by decide),hg2,if_neg (by decide),if_pos rfl]
  have hhd:HeadOk (txSee ws l'):=by
   obtain ⟨q1,q2,q3,q4⟩:=hhead
   rw [htop] at q1
   unfold fitsP at q1
   refine ⟨?_,(hg 0 (by decide) (by decide) (by decide) (by decide)).trans q2,(hg 8 (by decide) (by decide) (by decide) (by decide)).trans q3,?_⟩
   ·rw [h16];unfold fitsP;omega
   ·rw [h16,hlow 40 (by decide) (by decide),hg2,if_pos rfl];exact esm.symm
  have hst':∀ x,(x<lowA bs E∨E+n≤x)→x≠16→x≠40→x≠32→(∀ y∈freesB (lftA bs),x≠y+8∧x≠y+16)→txSee ws l' x=f x:=by rw [elo];exact hst
  have hsnd:=grow_sound hS hn.1 hn.2 hE hhd h16 hst' (by rw [elo,ead];exact s2) (by rw [ead];exact s3) (by rw [elo];exact hH')
  rw [elo,ead] at hsnd
  exact ⟨rfl,R',l',X',⟨hsnd,grow_held hS hst'⟩,K'⟩
theorem gr_hf {f:Nat→Nat} (h:HF w0 w T R ws E bs L f) (n:Nat) (hn64:n<18446744073709551616) :
  Calls Tryz.prog 20 #[.pointer (some ⟨T,0,none⟩),.int .u64 n] w fun e w'=>e=.returned (.int .i64 (grE E n:Nat))∧(grE E n≠0→∃ R',HF w0 w' T R' ws E bs L f∧Keep w R w' R')∧(grE E n=0→∃ R' f',HF w0 w' T R' ws (E+n) (grB bs E n) L f'∧Held f f' bs∧Keep w R w' R'):=by
 unfold grE
 by_cases h1:n % 16≠0∨n<48
 ·rw [if_pos h1]
  have hr:∀ w',w.grownBy w' none→(1≠0→∃ R',HF w0 w' T R' ws E bs L f∧Keep w R w' R')∧(1=0→∃ R' f',HF w0 w' T R' ws (E+n) (grB bs E n) L f'∧Held f f' bs∧Keep w R w' R'):=fun w' hg=>⟨fun _=>⟨R,h.later hg,Keep.of_grown hg⟩,fun e=>absurd e (by decide)⟩
  have HR:=Lib.hid hr
  clear hr h
  by_cases h2:n % 16=0
  ·have h3:(n:Int)<48:=by omega
   have h4:(n:Int) % 16=0:=by omega
   clear h1 h2
   go_enter Tryz.func20,Tryz.ntmps20
   go_wp2
   go_ret
   exact ⟨rfl,HR.out _ (grown_refl _ _)⟩
  ·have h4:¬ (n:Int) % 16=0:=by omega
   clear h1 h2
   go_enter Tryz.func20,Tryz.ntmps20
   go_wp2
   go_ret
   exact ⟨rfl,HR.out _ (grown_refl _ _)⟩
 ·rw [if_neg h1]
  by_cases h2:4800<E+n
  ·rw [if_pos h2]
   have hr:∀ w',w.grownBy w' none→(3≠0→∃ R',HF w0 w' T R' ws E bs L f∧Keep w R w' R')∧(3=0→∃ R' f',HF w0 w' T R' ws (E+n) (grB bs E n) L f'∧Held f f' bs∧Keep w R w' R'):=fun w' hg=>⟨fun _=>⟨R,h.later hg,Keep.of_grown hg⟩,fun e=>absurd e (by decide)⟩
   have HR:=Lib.hid hr
   obtain ⟨h0,M,B,D,l,X,hS,rfl⟩:=h
   have hsz:=hsize_any X.tx
   have htx:∀ V,w.grownBy V none→Calls Tryz.prog 51 #[.pointer (some ⟨T,0,none⟩)] V fun e w'=>e=.returned (.int .u64 4800)∧V=w':=fun V hg=>by
    have:=txsize_any (X.later hg).tx
    rw [h0] at this
    exact this
   have hlow:=hS.low
   rw [hS.top] at hsz
   have h4:(n:Int) % 16=0:=by omega
   have h5:¬ (n:Int)<48:=by omega
   have HTX:=Lib.hid htx
   clear hr htx X hS h0
   by_cases h3:E+n<18446744073709551616
   ·have hadd:=fun V=>add_low E n h3 V
    obtain ⟨hi,ehi⟩:∃ hi,E+n=hi:=⟨_,rfl⟩
    rw [ehi] at hadd h2
    have h6:(4800:Int)<(hi:Int):=by omega
    have HADD:=Lib.hid hadd
    clear hadd ehi h1 h2 h3
    go_enter Tryz.func20,Tryz.ntmps20
    go_wp2_with (first
     | (go_at_call 22;(with_reducible refine hsz.mono ?_);rintro e w1 ⟨rfl,hg1⟩)
     | (go_at_call 50;(with_reducible refine (HADD.out _).mono ?_);rintro e w2 ⟨rfl,rfl⟩;have ht1:=HTX.out _ hg1)
     | (go_at_call 51;(with_reducible refine ht1.mono ?_);rintro e w3 ⟨rfl,rfl⟩))
    go_ret
    exact ⟨rfl,HR.out _ hg1⟩
   ·have hadd:=fun V=>add_high E n (by omega) hn64 (by omega) V
    have HADD:=Lib.hid hadd
    clear hadd h1 h2 h3
    go_enter Tryz.func20,Tryz.ntmps20
    go_wp2_with (first
     | (go_at_call 22;(with_reducible refine hsz.mono ?_);rintro e w1 ⟨rfl,hg1⟩)
     | (go_at_call 50;(with_reducible refine (HADD.out _).mono ?_);rintro e w2 ⟨rfl,rfl⟩)
     | (go_at_call 51;(with_reducible refine (HTX.out _ hg1).mono ?_);rintro e w3 ⟨rfl,rfl⟩))
    go_ret
    exact ⟨rfl,HR.out _ hg1⟩
  ·rw [if_neg h2]
   obtain ⟨h0,M,B,D,l,X,hS,rfl⟩:=h
   refine (hgrow_ok X h0 hS ⟨by omega,by omega⟩ (by omega)).mono ?_
   rintro e w' ⟨rfl,R',l',X',⟨hS',hh⟩,K⟩
   exact ⟨rfl,fun h=>absurd rfl h,fun _=>⟨R',_,⟨h0,M,B,D,l',X',hS',rfl⟩,hh,K⟩⟩
end
theorem gr_nil (w:World):Calls Tryz.prog 20 #[.pointer none,.int .u64 48] w fun e w'=>e=.returned (.int .i64 3)∧w.grownBy w' none:=by
 have hsz:=hsize_nil w
 have hadd:Calls Tryz.prog 50 #[.int .u64 0,.int .u64 48] w fun e w'=>e=.returned (.tuple #[.int .u64 48,.bool true])∧w=w':=add_low 0 48 (by decide) w
 have htx:=txsize_nil w
 go_enter Tryz.func20,Tryz.ntmps20
 go_wp2_with (first
  | (go_at_call 22;(with_reducible refine hsz.mono ?_);rintro e w1 ⟨rfl,rfl⟩)
  | (go_at_call 50;(with_reducible refine hadd.mono ?_);rintro e w2 ⟨rfl,rfl⟩)
  | (go_at_call 51;(with_reducible refine htx.mono ?_);rintro e w3 ⟨rfl,rfl⟩))
 go_ret
 exact ⟨rfl,grown_refl _ _⟩
end Go.Proofs.YtcbdbflgfhbikaaGreat
