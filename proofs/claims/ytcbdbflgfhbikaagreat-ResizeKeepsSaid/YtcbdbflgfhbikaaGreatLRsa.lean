/-
  Texts of one layer, one behind the other: memory, contracts of the functions, and what follows of them.
  Conditions: as each theorem says.
-/
import Derived.Test.YtcbdbflgfhbikaaGreatLTaa
import Derived.Test.YtcbdbflgfhbikaaGreatLRed
import Derived.Test.YtcbdbflgfhbikaaGreatLCal
import Derived.Test.YtcbdbflgfhbikaaGreatLCae
import Derived.Test.YtcbdbflgfhbikaaGreatLTrh
import Derived.Laws.StructEq
import Derived.Deep.RegionHeld3
import Derived.BigQuiet
set_option linter.unusedVariables false
set_option linter.unusedSimpArgs false
namespace Go.Proofs.YtcbdbflgfhbikaaGreat
open Go.RowKit
set_option maxHeartbeats 2000000 in
set_option maxRecDepth 100000 in
theorem formed12_any {w:World} {la2:Option Addr} {n n2 c2:Nat} {X2 V2:Nat→Nat} (hn:n<18446744073709551616) (hp2:PutsAt w la2 n2 X2 V2) (hn2:n2≤maxLen) :
  Calls Tryz.prog 25 #[.int .u64 n,.slice la2 n2 c2] w (Formed w (fmt48 n) (thinkL (fmt48 n) X2 V2 (min n2 60))):=by
 have hfm:=fun (w:World) (B D:Nat) (hs:IsSeg w B D (List.replicate 600 0))=>format_any hs n hn
 have hrf:=fun w=>rformat48 n hn w
 have hten:=fmt48_len n
 unfold fmt48 at hten hrf ⊢
 obtain ⟨ws,hws⟩:∃ ws,fmt (List.replicate 600 0) n=ws:=⟨_,rfl⟩
 obtain ⟨fc,hfc⟩:∃ fc,fmtE (List.replicate 600 0) n=fc:=⟨_,rfl⟩
 rw [hws] at hfm hten hrf ⊢
 rw [hfc] at hfm
 unfold maxLen at hn2
 have hg0:w.grownBy (w.alloc (.cells #[.slice none 0 0,.slice none 0 0] 73)) none:=World.grownBy_alloc _ _ _
 have hres0:(w.alloc (.cells #[.slice none 0 0,.slice none 0 0] 73)).heap[w.heap.size]?=some (.cells #[.slice none 0 0,.slice none 0 0] 73 (0,0)):=heap_alloc_new' _ _
 clear hws hfc
 go_enter Tryz.func25,Tryz.ntmps25
 go_wp2_with (first|(go_at_call 59;((with_reducible refine (new48 _).mono ?_);rintro e w1 ⟨rfl,hg1,hs1⟩;simp only [World.size_alloc] at hs1))|(go_at_call 60;((with_reducible refine (hfm _ _ _ hs1).mono ?_);rintro e w2 ⟨rfl,hg2,hs2⟩))|(go_at_call 61;((with_reducible refine (hrf _).mono ?_);rintro e w3 ⟨wv,kk,rfl,hg3,ho3⟩;have hs3:=hs2.later hg3;obtain ⟨wa,wn,wc,hwv⟩:=wv_form ho3;subst hwv))|(go_at_call 62;((with_reducible refine (txnew_yes hs3).mono ?_);rintro e w4 ⟨rfl,hg4,ht4⟩)))
 have hsz1:w.heap.size+1≤w1.heap.size:=by have:=hg1.size;rwa [World.size_alloc] at this
 have hsz2:w1.heap.size≤w2.heap.size:=hg2.size
 have hsz3:w2.heap.size≤w3.heap.size:=hg3.size
 have hsz4:w3.heap.size≤w4.heap.size:=hg4.size
 have hbxn:w.heap.size≤w4.heap.size:=by omega
 have hbxne:w4.heap.size≠w.heap.size:=by omega
 have hg5:w4.grownBy (w4.alloc (.cells #[.slice wa wn wc,.slice none 0 0] 73)) none:=World.grownBy_alloc _ _ _
 have R0:ThRel w (w3.heap.size+1) w3.heap.size (w.heap.size+1+1) (w.heap.size+1) w4.heap.size w.heap.size (.slice wa wn wc) ws (thinkL ws X2 V2 0) (w4.alloc (.cells #[.slice wa wn wc,.slice none 0 0] 73)):=by
  have hgD:w1.grownBy w3 (some (w.heap.size+1)):=grown_trans hg2 (grown_any hg3 _)
  have hsince:w.grownBy w3 none:=by
   refine grown_step (grown_trans hg0 hg1) hgD (fun i hi=>.inl ?_)
   injection hi with hi
   omega
  refine ⟨⟨none,⟨ht4.later hg5,grown_trans (grown_trans hsince hg4) hg5,by omega,by omega,(fun g hg=>by cases hg),by omega,by omega⟩,fun g _ hg=>by cases hg⟩,⟨_,heap_alloc_new' _ _,⟨(((ho3.mono (by omega)).later hg4).later hg5),World.ownsRow_nil _ _ _ _⟩⟩,?_⟩
  have h1:=(hg1.block _ (lt_of_block hres0) (by simp)).trans hres0
  have h2:=(hgD.block _ (lt_of_block h1) (by intro e;injection e with e;omega)).trans h1
  have h3:=(hg4.block _ (lt_of_block h2) (by simp)).trans h2
  exact (hg5.block _ (lt_of_block h3) (by simp)).trans h3
 clear hs1 hs2 hs3 ho3 ht4 hg1 hg2 hg3 hg4 hg5 hfm hrf hsz1 hsz2 hsz3 hsz4
 generalize w4.heap.size=bx at *
 generalize w3.heap.size+1=T at *
 generalize w3.heap.size=M at *
 go_loopw [11] (fun i wr=>∃ k:Nat,k≤min n2 60∧i=.int .i64 k∧ThRel w T M (w.heap.size+1+1) (w.heap.size+1) bx w.heap.size (.slice wa wn wc) ws (thinkL ws X2 V2 k) wr) (fun i _=>60 - (intOf i).toNat)
 case atStart=>exact ⟨0,Nat.zero_le _,rfl,R0⟩
 case round =>
  obtain ⟨k,hk,rfl,R⟩:=hrel
  clear R0
  by_cases hlt:k<min n2 60
  ·have hn0:k<n2:=by omega
   have h40:k<60:=by omega
   have hgr:w.grownBy wr none:=by obtain ⟨_,h1,_⟩:=R.tx;exact h1.since
   obtain ⟨b,off,rfl,hb,hcs⟩:=(hp2.later hgr).cells (by omega)
   obtain ⟨c1,c2⟩:=hcs k hn0
   clear hcs
   have hx:=(hp2.lt k).1
   have hv:=(hp2.lt k).2
   have hq1:wr.grownBy wr.drew none:=grown_drew (grown_refl _ _)
   have hst:=(R.later hq1).store (X2 k) (V2 k) hx hv
   go_wp2
   go_still_tail 11,(by kernel_rfl)
   go_wp2_with (go_at_call 16;refine hst.mono ?_;rintro e v2 ⟨rfl,Q⟩)
   have hgr2:w.grownBy v2 none:=by obtain ⟨_,h1,_⟩:=Q.tx;exact h1.since
   have hq2:v2.grownBy v2.drew none:=grown_drew (grown_refl _ _)
   obtain ⟨pv,hbox,hrt⟩:=Q.box
   obtain ⟨pa,pn,pc,hpv⟩:=pv_form hrt.puts
   subst hpv
   obtain ⟨b',off',hbo,hb',hcs⟩:=(hp2.later hgr2).cells (by omega)
   injection hbo with hbo
   injection hbo with hbo1 hbo2
   subst hbo1
   subst hbo2
   clear c1 c2
   obtain ⟨c1,c2⟩:=hcs k hn0
   clear hcs
   have d0:v2.cell? ⟨bx,0,none⟩=some (.slice wa wn wc):=by simp [World.cell?,hbox]
   have d1:v2.cell? ⟨bx,1,none⟩=some (.slice pa pn pc):=by simp [World.cell?,hbox]
   have hlen:(thinkL ws X2 V2 k).length≤1000000:=by
    have:=(thinkL_ok (ws:=ws) (X:=X2) (fun i=>(hp2.lt i).2) k).len
    omega
   have hrs:=rtxstore_any (hrt.later hq2) (grown_trans hgr2 hq2).size (by omega) hlen (X2 k) (V2 k) hx
   have HQ:=Lib.hid Q
   have HB:=Lib.hid hbox
   clear hbox Q hst hrt
   go_still_tail 11,(by kernel_rfl)
   go_wp2_with (go_at_call 63;refine hrs.mono ?_;rintro e v4 ⟨pv',rfl,hr4,hg4⟩;obtain ⟨pa',pn',pc',hpv'⟩:=pv_form hr4.puts;subst hpv';have hb4:=(hg4.block _ (lt_of_block HB.out) (by simp)).trans HB.out;have e0:v4.cell? ⟨bx,0,none⟩=some (.slice wa wn wc):=(by simp [World.cell?,hb4]);have e1:v4.cell? ⟨bx,1,none⟩=some (.slice pa pn pc):=(by simp [World.cell?,hb4]);have f0:v4.frozen? ⟨bx,0,none⟩=false:=(by simp [World.frozen?,hb4]);have f1:v4.frozen? ⟨bx,1,none⟩=false:=(by simp [World.frozen?,hb4]);clear hb4)
   go_roundw
   case rel=>exact ⟨k+1,by omega,by go_num,HQ.out.stored (grown_trans hq2 hg4) hr4 hbxn hbxne⟩
   case measure=>simp [intOf];omega
  ·obtain ⟨N,hN⟩:∃ N,min n2 60=N:=⟨_,rfl⟩
   rw [hN] at hk hlt ⊢
   obtain rfl:k=N:=by omega
   have HN:=Lib.hid hN
   obtain ⟨Rr,hT,hap⟩:=R.tx
   obtain ⟨pv,hbox,hrt⟩:=R.box
   obtain ⟨pa,pn,pc,hpv⟩:=pv_form hrt.puts
   subst hpv
   have hres:=R.res
   have d0:wr.cell? ⟨bx,0,none⟩=some (.slice wa wn wc):=by simp [World.cell?,hbox]
   have d1:wr.cell? ⟨bx,1,none⟩=some (.slice pa pn pc):=by simp [World.cell?,hbox]
   have e0:wr.cell? ⟨w.heap.size,0,none⟩=some (.slice none 0 0):=by simp [World.cell?,hres]
   have e1:wr.cell? ⟨w.heap.size,1,none⟩=some (.slice none 0 0):=by simp [World.cell?,hres]
   have f0:wr.frozen? ⟨w.heap.size,0,none⟩=false:=by simp [World.frozen?,hres]
   have f1:wr.frozen? ⟨w.heap.size,1,none⟩=false:=by simp [World.frozen?,hres]
   have HR:=Lib.hid hres
   clear hres hbox hN R
   have hend:Formed w ws (thinkL ws X2 V2 k) (.returned (.tuple #[.pointer (some ⟨T,0,none⟩),.agg #[.slice wa wn wc,.slice pa pn pc]])) ((wr.setCell ⟨w.heap.size,0,none⟩ (.slice wa wn wc)).setCell ⟨w.heap.size,1,none⟩ (.slice pa pn pc)).drew:=by
    have hs:wr.grownBy ((wr.setCell ⟨w.heap.size,0,none⟩ (.slice wa wn wc)).setCell ⟨w.heap.size,1,none⟩ (.slice pa pn pc)).drew (some w.heap.size):=grown_drew (grown_trans (grown_set _ _ _ _) (grown_set _ _ _ _))
    exact ⟨_,_,_,_,_,_,_,rfl,hT.other HR.out (Nat.le_refl _) hs,hrt.other HR.out hs,hap⟩
   have HE:=Lib.hid hend
   clear hend
   by_cases hkn:k<n2
   ·have h40:¬ k<60:=by have:=HN.out;omega
    go_wp2
    go_region
    all_goals go_wp2
    refine bodyPost_ret (v:=.tuple #[.pointer (some ⟨T,0,none⟩),.agg #[.slice wa wn wc,.slice pa pn pc]]) (by simp [results,Tryz.results25,go_sem,e0,e1]) rfl (by rw [HN.out];exact HE.out)
   ·go_wp2
    go_region
    all_goals go_wp2
    refine bodyPost_ret (v:=.tuple #[.pointer (some ⟨T,0,none⟩),.agg #[.slice wa wn wc,.slice pa pn pc]]) (by simp [results,Tryz.results25,go_sem,e0,e1]) rfl (by rw [HN.out];exact HE.out)
theorem formed12_nil (n:Nat) (hn:n<18446744073709551616) (w:World):Calls Tryz.prog 25 #[.int .u64 n,.slice none 0 0] w (Formed w (fmt48 n) []):=formed12_any (c2:=0) hn (puts_none w) (by decide)
end Go.Proofs.YtcbdbflgfhbikaaGreat
namespace Go.Proofs.YtcbdbflgfhbikaaGreat
open Go.RowKit
section
variable {f g:Nat→Nat} {E:Nat} {bs A C:List Blk} {b:Blk} {L:Nat→List Nat}
theorem Told.relen {f g:Nat→Nat} {E e:Nat} {b:Blk} {n:Nat}:∀ {A C:List Blk} {o:Nat},Told f E o (A++b::C) e→(∀ x∈A++C,g x.off=f x.off∧g (x.off+x.s - 8)=f (x.off+x.s - 8)∧(x.u=true→g (x.off+8)=f (x.off+8)))→BkIs g E ⟨b.off,b.s,b.u,b.o,n⟩→Told g E o (A++⟨b.off,b.s,b.u,b.o,n⟩::C) e
 | [],C,o,h,hg,hb=>by
  obtain ⟨h1,h2,h3⟩:=h
  exact ⟨h1,hb,h3.congr fun x hx=>hg x (by simpa using hx)⟩
 | a::A,C,o,h,hg,hb=>by
  obtain ⟨h1,h2,h3⟩:=h
  obtain ⟨g1,g2,g3⟩:=hg a (by simp)
  exact ⟨h1,h2.congr g1 g2 g3,Told.relen h3 (fun x hx=>hg x (by simp at hx ⊢;exact .inr hx)) hb⟩
theorem mg_relen {b b':Blk} (hb:b'.u=b.u):∀ {A C:List Blk},Mg (A++b::C)→Mg (A++b'::C):=fun {A C} h=>by
 obtain ⟨h1,h2,h3⟩:=mg_append.1 h
 refine mg_append.2 ⟨h1,?_,fun x c hx hc=>?_⟩
 ·cases C with
  | nil=>trivial
  | cons c r=>exact mg_cons.2 ⟨by rw [hb];exact (mg_cons.1 h2).1,(mg_cons.1 h2).2⟩
 ·rw [List.head?_cons] at hc
  injection hc with hc
  rw [← hc,hb]
  exact h3 x b hx rfl
theorem frees_relen {b':Blk} (hu:b'.u=b.u) (ho:b'.off=b.off):freesB (A++b'::C)=freesB (A++b::C)∧usedB (A++b'::C)=usedB (A++b::C):=by
 unfold freesB usedB
 rw [List.filter_append,List.filter_append,List.filter_append,List.filter_append,List.filter_cons,List.filter_cons,List.filter_cons,List.filter_cons,hu]
 constructor
 ·split <;> simp [ho]
 ·split <;> simp [ho]
theorem relen_sound {n:Nat} (h:SoundF f E (A++b::C) L) (hu:b.u=true) (hn:n+40≤b.s) (hn64:n<18446744073709551616) (h8:g (b.off+8)=n) (hg:∀ x,x≠b.off+8→(x<b.off+32∨b.off+b.s - 8≤x)→g x=f x) :
  SoundF g E (A++⟨b.off,b.s,b.u,b.o,n⟩::C) L:=by
 have hT:=h.told
 have hb:=hT.is b (by simp)
 have hlo:=hb.lo
 have hs:=hb.size
 have hlow:∀ x,x<3776→g x=f x:=fun x hx=>hg x (by omega) (.inl (by omega))
 have hap:=hT.apart
 have hap':=List.pairwise_append.1 hap
 have hother:∀ x∈A++C,x.off+x.s≤b.off∨b.off+b.s≤x.off:=fun x hx=>by
  rcases List.mem_append.1 hx with h1|h1
  ·exact .inl (hap'.2.2 x h1 b (by simp))
  ·exact .inr ((List.pairwise_cons.1 hap'.2.1).1 x h1)
 have hAC:∀ x∈A++C,BkIs f E x:=fun x hx=>hT.is x (by simp at hx ⊢;rcases hx with h1|h1;exact .inl h1;exact .inr (.inr h1))
 have hout:∀ x∈A++C,∀ d,d+8≤x.s→g (x.off+d)=f (x.off+d):=fun x hx d hd=>by
  have h1:=hother x hx
  have h2:=(hAC x hx).size
  exact hg _ (by omega) (by omega)
 obtain ⟨ef,eu⟩:=frees_relen (A:=A) (C:=C) (b:=b) (b':=⟨b.off,b.s,b.u,b.o,n⟩) rfl rfl
 have hfree:∀ x∈freesB (A++b::C),g x=f x∧g (x+8)=f (x+8)∧g (x+16)=f (x+16):=fun x hx=>by
  obtain ⟨y,hy,hyu,rfl⟩:=freesB_mem.1 hx
  have hy':y∈A++C:=by
   rcases List.mem_append.1 hy with h1|h1
   ·exact List.mem_append_left _ h1
   ·rcases List.mem_cons.1 h1 with h2|h2
    ·rw [h2,hu] at hyu;cases hyu
    ·exact List.mem_append_right _ h2
  have h2:=(hAC y hy').size
  exact ⟨hout y hy' 0 (by omega),hout y hy' 8 (by omega),hout y hy' 16 (by omega)⟩
 have hused:∀ x∈usedB (A++b::C),g (x+16)=f (x+16)∧g (x+24)=f (x+24):=fun x hx=>by
  obtain ⟨y,hy,hyu,rfl⟩:=usedB_mem.1 hx
  have h2:=(hT.is y hy).size
  by_cases e:y=b
  ·rw [e]
   exact ⟨hg _ (by omega) (.inl (by omega)),hg _ (by omega) (.inl (by omega))⟩
  ·have hy':y∈A++C:=by
    rcases List.mem_append.1 hy with h1|h1
    ·exact List.mem_append_left _ h1
    ·exact List.mem_append_right _ ((List.mem_cons.1 h1).resolve_left e)
   exact ⟨hout y hy' 16 (by omega),hout y hy' 24 (by omega)⟩
 have hF:HeapF g E (A++⟨b.off,b.s,b.u,b.o,n⟩::C):=by
  refine ⟨h.head.congr fun q hq _=>hlow q (by omega),(hlow 16 (by decide)).trans h.top,h.low,hT.relen (fun x hx=>?_) ?_,?_⟩
  ·have h1:=hother x hx
   have h2:=(hAC x hx).size
   exact ⟨hg _ (by omega) (by omega),hg _ (by omega) (by omega),fun _=>hg _ (by omega) (by omega)⟩
  ·have e1:g b.off=packN b.s b.u b.o:=(hg _ (by omega) (.inl (by omega))).trans hb.head
   have e2:g (b.off+b.s - 8)=packN b.s b.u b.o:=(hg _ (by omega) (.inr (by omega))).trans hb.foot
   refine ⟨hb.may,hb.al,hb.lo,hb.hi,e1,e2,?_⟩
   rw [if_pos hu]
   exact ⟨h8,hn⟩
  ·rw [ef]
   exact h.heap.hung.congr (hlow 32 (by decide)) hfree
 refine hF.sound (mg_relen (b:=b) (b':=⟨b.off,b.s,b.u,b.o,n⟩) rfl h.merged) ?_ fun x hx hxu c hc=>?_
 ·rw [eu]
  exact h.ledg.congr (fun c hc=>by have:=slotH_lt hc;exact hlow _ (by omega)) hused
 ·rcases List.mem_append.1 hx with h1|h1
  ·exact h.whose x (by simp [h1]) hxu c hc
  ·rcases List.mem_cons.1 h1 with h2|h2
   ·rw [h2]
    exact h.whose b (by simp) hu c hc
   ·exact h.whose x (by simp [h2]) hxu c hc
theorem payload_sound (h:SoundF f E (A++b::C) L) (hu:b.u=true) (hg:∀ x,(x<b.off+32∨b.off+b.s - 8≤x)→g x=f x):SoundF g E (A++b::C) L:=by
 have hb:=h.told.is b (by simp)
 have hl:=hb.len
 rw [if_pos hu] at hl
 have hs:=hb.size
 have hm:=(may_bounds hb.may).2.2.1
 exact relen_sound (n:=b.n) h hu hl.2 (by omega) ((hg _ (.inl (by omega))).trans hl.1) fun x _ hx=>hg x hx
theorem Told.wider {E':Nat} (hE:E≤E'):∀ {bs:List Blk} {o e:Nat},Told f E o bs e→Told f E' o bs e
 | [],_,_,h=>h
 | _::_,_,_,⟨h1,h2,h3⟩=>⟨h1,h2.grow (Nat.le_trans h2.hi hE),Told.wider hE h3⟩
theorem grow_mg (h:Mg bs) (n:Nat):Mg (bs++[⟨E,n,true,0,0⟩]):=mg_append.2 ⟨h,trivial,fun x c _ hc=>by
 rw [List.head?_cons] at hc
 injection hc with hc
 rw [← hc]
 exact .inr rfl⟩
theorem grow_low (h:SoundF f E bs L):Told f E 3776 (lftA bs) (lowA bs E)∧lowA bs E+addA bs=E∧lowA bs E % 16=0∧3776≤lowA bs E∧addA bs % 16=0∧E % 16=0:=by
 have hT:=h.told
 have hE:∀ {bs:List Blk} {o:Nat},o % 16=0→Told f E o bs E→E % 16=0:=fun {bs}=>by
  induction bs with
  | nil=>intro o ho h;exact h▸ho
  | cons b r ih =>
   intro o ho h
   have:=h.2.1.size.2
   exact ih (by omega) h.2.2
 have hE16:=hE (by decide) hT
 rcases left_cases bs E with ⟨e1,e2,e3,_⟩|⟨X,p,e0,hp,e1,e2,e3⟩
 ·rw [e1,e2,e3]
  exact ⟨hT,rfl,hE16,hT.le,rfl,hE16⟩
 ·rw [e1,e2,e3]
  rw [e0] at hT
  obtain ⟨m,h1,h2,h3,h4⟩:=told_append.1 hT
  have h2':p.off=m:=h2
  have h4':m+p.s=E:=h4
  subst h2'
  exact ⟨h1,h4',h3.al,h3.lo,h3.size.2,hE16⟩
theorem grow_sound {n:Nat} (h:SoundF f E bs L) (hn:n % 16=0) (hn48:48≤n) (hE:E+n≤4800) (h0:HeadOk g) (h16:g 16=E+n)
  (hS:∀ x,(x<lowA bs E∨E+n≤x)→x≠16→x≠40→x≠32→(∀ y∈freesB (lftA bs),x≠y+8∧x≠y+16)→g x=f x)
  (e1:g (lowA bs E)=packN (addA bs+n) false 0) (e2:g (E+n - 8)=packN (addA bs+n) false 0) (hH:Hung g (freesB (lftA bs)++[lowA bs E])) :
  SoundF g (E+n) (lftA bs++[freeB (lowA bs E) (addA bs+n)]) L:=by
 obtain ⟨t1,t2,t3,t4,t5,t6⟩:=grow_low h
 have hT:=h.told
 have hsub:∀ x∈lftA bs,x∈bs:=fun x hx=>by
  rcases left_cases bs E with ⟨e1,_⟩|⟨X,p,e0,hp,e1,_⟩
  ·rw [e1] at hx;exact hx
  ·rw [e1] at hx;rw [e0];exact List.mem_append_left _ hx
 have hfs:∀ y∈freesB (lftA bs),y∈freesB bs:=fun y hy=>by
  obtain ⟨b,hb,hu,rfl⟩:=freesB_mem.1 hy
  exact freesB_mem.2 ⟨b,hsub b hb,hu,rfl⟩
 have hF:∀ y∈freesB (lftA bs),3776≤y:=fun y hy=>(h.freeL.on y (hfs y hy)).2.1
 have hu0:usedB (lftA bs++[freeB (lowA bs E) (addA bs+n)])=usedB bs:=by
  rw [usedB_append,show usedB [freeB (lowA bs E) (addA bs+n)]=[] from rfl,List.append_nil]
  exact (free_used (A:=bs) (C:=[])).1
 have hlow:∀ x,x<3776→x≠16→x≠40→x≠32→g x=f x:=fun x hx a b c=>hS x (.inl (by omega)) a b c fun y hy=>by have:=hF y hy;omega
 have hw:∀ x∈lftA bs,x.off+x.s≤lowA bs E∧3776≤x.off:=fun x hx=>⟨(t1.within x hx).2,(t1.within x hx).1⟩
 have htold:Told g (E+n) 3776 (lftA bs) (lowA bs E):=by
  refine (Told.wider (Nat.le_add_right E n) t1).congr fun x hx=>?_
  have h1:=hw x hx
  have h2:=(t1.is x hx).size
  have h5:=fun y (hy:y∈freesB (lftA bs))=>hT.free_far (hsub x hx) (hfs y hy)
  refine ⟨hS _ (by omega) (by omega) (by omega) (by omega) fun y hy=>?_,hS _ (by omega) (by omega) (by omega) (by omega) fun y hy=>?_,fun hu=>hS _ (by omega) (by omega) (by omega) (by omega) fun y hy=>?_⟩
  ·have:=h5 y hy;omega
  ·have:=h5 y hy;omega
  ·rcases h5 y hy with h6|h6
   ·rw [hu] at h6;exact absurd h6.2 (by decide)
   ·omega
 have hb:BkIs g (E+n) (freeB (lowA bs E) (addA bs+n)):=free_is (by omega) (by omega) t3 t4 (by omega) hE e1 (by rw [show lowA bs E+(addA bs+n) - 8=E+n - 8 by omega];exact e2)
 have hHF:HeapF g (E+n) (lftA bs++[freeB (lowA bs E) (addA bs+n)]):=by
  refine ⟨h0,h16,hE,told_append.2 ⟨_,htold,rfl,hb,?_⟩,?_⟩
  ·show lowA bs E+(addA bs+n)=E+n
   omega
  ·rw [freesB_append]
   exact hH
 have hmg:Mg (lftA bs++[freeB (lowA bs E) (addA bs+n)]):=free_merged (C:=[]) (b:=⟨E,n,true,0,0⟩) (grow_mg h.merged n) _
 refine hHF.sound hmg ?_ fun x hx hxu c hc=>?_
 ·rw [hu0]
  refine h.ledg.congr (fun c hc=>hlow _ (slotH_lt hc) (by unfold slotH;omega) (by unfold slotH;omega) (by unfold slotH;omega)) fun x hx=>?_
  obtain ⟨b,hb,hbu,rfl⟩:=usedB_mem.1 hx
  have hin:b∈lftA bs:=by
   rcases left_cases bs E with ⟨e1,_⟩|⟨X,p,e0,hp,e1,_⟩
   ·rw [e1];exact hb
   ·rw [e1]
    rw [e0] at hb
    rcases List.mem_append.1 hb with h7|h7
    ·exact h7
    ·rw [List.mem_singleton.1 h7,hp] at hbu;cases hbu
  have h1:=hw b hin
  have h2:=(hT.is b hb).size
  have h5:∀ y∈freesB (lftA bs),y+48≤b.off∨b.off+b.s≤y:=fun y hy=>by
   rcases hT.free_far hb (hfs y hy) with h6|h6
   ·rw [hbu] at h6;exact absurd h6.2 (by decide)
   ·exact h6
  exact ⟨hS _ (by omega) (by omega) (by omega) (by omega) fun y hy=>by have:=h5 y hy;omega,hS _ (by omega) (by omega) (by omega) (by omega) fun y hy=>by have:=h5 y hy;omega⟩
 ·rcases List.mem_append.1 hx with h1|h1
  ·exact h.whose x (hsub x h1) hxu c hc
  ·rw [List.mem_singleton.1 h1] at hxu;cases hxu
end
end Go.Proofs.YtcbdbflgfhbikaaGreat
namespace Go.Proofs.YtcbdbflgfhbikaaGreat
open Go.RowKit
set_option maxRecDepth 100000
set_option maxHeartbeats 1000000 in
theorem made12_any (b:Blk) (w:World) :
  Calls Tryz.prog 21 #[.agg #[.int .u64 (b.off:Nat),.int .u64 (b.s:Nat),.bool b.u,.int .i64 b.o,.int .u64 (b.n:Nat)]] w fun e w'=>e=.returned (.agg #[.int .u64 (b.off:Nat),.int .u64 (b.s:Nat),.bool b.u,.int .i64 b.o,.int .u64 (b.n:Nat)])∧w.grownBy w' none:=by
 obtain ⟨x0,x1,x2,x3,x4⟩:=b
 simp only
 go_enter Tryz.func21,Tryz.ntmps21
 go_wp2
 have hb:=heap_alloc_new' (w.alloc (.cells #[.int .u64 (x0:Nat),.int .u64 (x1:Nat),.bool x2,.int .i64 x3,.int .u64 (x4:Nat)] 61)) (.cells #[.int .u64 (x0:Nat),.int .u64 (x1:Nat),.bool x2,.int .i64 x3,.int .u64 (x4:Nat)] 45)
 rw [World.size_alloc] at hb
 refine bodyPost_ret (results_cell_row (by kernel_rfl:Tryz.f21.results=#[.cell 2 45]) _ _ (w.heap.size+1) 45 _ (0,0) _ rfl hb Tryz.underlying45 rfl (by kernel_rfl)) rfl ?_
 exact ⟨rfl,grown_trans (World.grownBy_alloc _ _ _) (World.grownBy_alloc _ _ _)⟩
section
variable {w0 w:World} {T:Nat} {R:Option Nat} {ws:List Nat} {E base:Nat} {bs:List Blk} {L:Nat→List Nat} {v:Value}
set_option maxHeartbeats 8000000 in
theorem sound12_any (h:HW w0 w T R ws E bs L) (hv:HvIs w base v E bs L) :
  Calls Tryz.prog 12 #[.pointer (some ⟨T,0,none⟩),v] w fun e w'=>e=.returned (.bool true)∧w.grownBy w' none:=by
 obtain ⟨b,vs,rfl,hb,hl⟩:=hv.is
 obtain ⟨va,ln,vc,hve,hl',hln⟩:=heap_lie (E:=E) (b:=b) hl
 rw [hve]
 clear hve hl
 have hfr:=fun (V:World) (hg:w.grownBy V none)=>rfrees_any (v:=heapV E b fun c=>.slice (va c) (ln c) (vc c)) (⟨⟨b,_,rfl,hb.later hg,fun c hc=>(hl' c hc).later hg⟩⟩:HvIs V base _ E bs L) (hw_few h)
 obtain ⟨la,cap,hbe,hat⟩:=hb.at_
 subst hbe
 obtain ⟨n,hn⟩:∃ n,bs.length=n:=⟨_,rfl⟩
 rw [hn] at hfr ⊢
 have hfew:=hw_few h
 rw [hn] at hfew
 have hwk:=fun (V:World) (hg:w.grownBy V none)=>hw_walk (h.later hg)
 have hsz:=fun (V:World) (hg:w.grownBy V none)=>hw_size (h.later hg)
 have hli:=fun (V:World) (c:Nat) (hg:w.grownBy V none) (hc:c<8)=>hw_list (la:=va c) (m:=ln c) (k:=vc c) (h.later hg) hc ((lie_at (hl' c hc)).later hg) (hln c)
 have htr:=fun (V:World) (la:Option Addr) (m k:Nat) (hg:w.grownBy V none) (hw:WordsAt V la (freesB bs)) (hm:(freesB bs).length=m)=>hw_tree (k:=k) (h.later hg) hw hm
 simp only [heapV] at hfr ⊢
 have hg0:=World.grownBy_alloc w (.cells #[.int .u64 E,.slice la n cap,.slice (va 0) (ln 0) (vc 0),.slice (va 1) (ln 1) (vc 1),.slice (va 2) (ln 2) (vc 2),.slice (va 3) (ln 3) (vc 3),.slice (va 4) (ln 4) (vc 4),.slice (va 5) (ln 5) (vc 5),.slice (va 6) (ln 6) (vc 6),.slice (va 7) (ln 7) (vc 7)] 30) none
 have hbx0:=heap_alloc_new' w (.cells #[.int .u64 E,.slice la n cap,.slice (va 0) (ln 0) (vc 0),.slice (va 1) (ln 1) (vc 1),.slice (va 2) (ln 2) (vc 2),.slice (va 3) (ln 3) (vc 3),.slice (va 4) (ln 4) (vc 4),.slice (va 5) (ln 5) (vc 5),.slice (va 6) (ln 6) (vc 6),.slice (va 7) (ln 7) (vc 7)] 30)
 obtain ⟨hb0,ehb⟩:∃ hb0,w.heap.size=hb0:=⟨_,rfl⟩
 have hbx:∀ V:World,(w.alloc (.cells #[.int .u64 E,.slice la n cap,.slice (va 0) (ln 0) (vc 0),.slice (va 1) (ln 1) (vc 1),.slice (va 2) (ln 2) (vc 2),.slice (va 3) (ln 3) (vc 3),.slice (va 4) (ln 4) (vc 4),.slice (va 5) (ln 5) (vc 5),.slice (va 6) (ln 6) (vc 6),.slice (va 7) (ln 7) (vc 7)] 30)).grownBy V none→V.heap[hb0]?=some (.cells #[.int .u64 E,.slice la n cap,.slice (va 0) (ln 0) (vc 0),.slice (va 1) (ln 1) (vc 1),.slice (va 2) (ln 2) (vc 2),.slice (va 3) (ln 3) (vc 3),.slice (va 4) (ln 4) (vc 4),.slice (va 5) (ln 5) (vc 5),.slice (va 6) (ln 6) (vc 6),.slice (va 7) (ln 7) (vc 7)] 30 (0,0)):=fun V hg=>by
  rw [← ehb]
  exact (hg.block _ (lt_of_block hbx0) (by simp)).trans hbx0
 obtain ⟨W1,hW1⟩:∃ W1,w.alloc (.cells #[.int .u64 E,.slice la n cap,.slice (va 0) (ln 0) (vc 0),.slice (va 1) (ln 1) (vc 1),.slice (va 2) (ln 2) (vc 2),.slice (va 3) (ln 3) (vc 3),.slice (va 4) (ln 4) (vc 4),.slice (va 5) (ln 5) (vc 5),.slice (va 6) (ln 6) (vc 6),.slice (va 7) (ln 7) (vc 7)] 30)=W1:=⟨_,rfl⟩
 rw [hW1] at hg0 hbx
 have HBX:=Lib.hid hbx
 have HAT:=Lib.hid hat
 have HN:=Lib.hid hn
 have HFR:=Lib.hid hfr
 have HTR:=Lib.hid htr
 have HLI:=Lib.hid hli
 have en:((n:Int) != (n:Int))=false:=by simp
 have eE:((E:Int) != (E:Int))=false:=by simp
 have hd0:=hg0
 clear hbx hbx0 hat hn hb hl' hln h hv hfr htr hli
 go_enter Tryz.func12,Tryz.ntmps12
 go_wp2_with (first|(go_at_call 24;(with_reducible refine (hwk _ hg0).mono ?_);rintro e w2 ⟨v2,rfl,ho2,hg2⟩))
 obtain ⟨la2,c2,hv2,hat2⟩:=ho2.at_
 subst hv2
 rw [HN.out]
 have HAT2:=Lib.hid hat2
 clear hat2 ho2
 have hcell:∀ {wq:World},w2.grownBy wq none→wq.cell? ⟨hb0,0,none⟩=some (.int .u64 E)∧wq.cell? ⟨hb0,1,none⟩=some (.slice la n cap):=fun {wq} hg=>by
  obtain ⟨⟨q0,q1,_⟩,_⟩:=ten_cells (HBX.out wq (grown_trans hg2 hg))
  exact ⟨q0,q1⟩
 have HG:w2.grownBy w2.drew none:=grown_drew (grown_refl _ _)
 obtain ⟨d0,d1⟩:=hcell HG
 go_region_held3 (fun w'=>w'.cell? ⟨hb0,0,none⟩=some (.int .u64 E)∧w'.cell? ⟨hb0,1,none⟩=some (.slice la n cap)) (go_keep) (first|(go_at_call 22;(with_reducible refine (hsz _ (grown_trans hg0 (grown_trans hg2 HG))).mono ?_);rintro e w3 ⟨rfl,hg3⟩;replace HG:=grown_trans HG hg3;obtain ⟨d0,d1⟩:=hcell HG))
 go_wp2
 have hgL:w.grownBy _ none:=grown_trans hg0 (grown_trans hg2 HG)
 obtain ⟨W3,hW3⟩:∃ W3,w3=W3:=⟨_,rfl⟩
 have hsince:=grown_trans hg2 HG
 clear hg3 d0 d1 hcell
 go_loopw [7] (fun i wr=>∃ k:Nat,k≤n∧i=.int .i64 k∧w2.grownBy wr none) (fun i _=>n - (intOf i).toNat)
 case atStart=>exact ⟨0,Nat.zero_le _,rfl,HG⟩
 case round =>
  obtain ⟨k,hk,rfl,hgk⟩:=hrel
  have hg:=grown_trans hg2 hgk
  rcases Nat.lt_or_ge k n with h1|h1
  ·rename_i wr
   obtain ⟨b,o,rfl,hb,hcs⟩:=(HAT2.out.later hgk).cells (by rw [HN.out];omega)
   obtain ⟨b2,o2,rfl,hb2,hcs2⟩:=(HAT.out.later (grown_trans hg0 hg)).cells (by rw [HN.out];omega)
   have hk1:k<bs.length:=by rw [HN.out];exact h1
   obtain ⟨x0,ex0⟩:∃ x,gO bs k=x:=⟨_,rfl⟩
   obtain ⟨x1,ex1⟩:∃ x,gS bs k=x:=⟨_,rfl⟩
   obtain ⟨x2,ex2⟩:∃ x,gU bs k=x:=⟨_,rfl⟩
   obtain ⟨x3,ex3⟩:∃ x,gW bs k=x:=⟨_,rfl⟩
   obtain ⟨x4,ex4⟩:∃ x,gN bs k=x:=⟨_,rfl⟩
   obtain ⟨c0,c1,c2',c3,c4⟩:=hcs k hk1
   obtain ⟨d0,d1,d2,d3,d4⟩:=hcs2 k hk1
   rw [ex0] at c0 d0
   rw [ex1] at c1 d1
   rw [ex2] at c2' d2
   rw [ex3] at c3 d3
   rw [ex4] at c4 d4
   have hmd:=fun w=>made12_any ⟨x0,x1,x2,x3,x4⟩ w
   simp only at hmd
   have hheap:∀ {wq:World},wr.grownBy wq none→wq.cell? ⟨hb0,1,none⟩=some (.slice (some ⟨b2,o2,none⟩) n cap):=fun {wq} hq=>by
    obtain ⟨⟨q0,q1,_⟩,_⟩:=ten_cells (HBX.out wq (grown_trans hg hq))
    exact q1
   have hcell:∀ {wq:World},wr.grownBy wq none→(wq.cell? ⟨b,o+k*5,none⟩=some (.int .u64 (x0:Nat))∧wq.cell? ⟨b,o+k*5+1,none⟩=some (.int .u64 (x1:Nat))∧wq.cell? ⟨b,o+k*5+2,none⟩=some (.bool x2)∧wq.cell? ⟨b,o+k*5+3,none⟩=some (.int .i64 x3)∧wq.cell? ⟨b,o+k*5+4,none⟩=some (.int .u64 (x4:Nat))) ∧
     (wq.cell? ⟨b2,o2+k*5,none⟩=some (.int .u64 (x0:Nat))∧wq.cell? ⟨b2,o2+k*5+1,none⟩=some (.int .u64 (x1:Nat))∧wq.cell? ⟨b2,o2+k*5+2,none⟩=some (.bool x2)∧wq.cell? ⟨b2,o2+k*5+3,none⟩=some (.int .i64 x3)∧wq.cell? ⟨b2,o2+k*5+4,none⟩=some (.int .u64 (x4:Nat)))∧wq.cell? ⟨hb0,1,none⟩=some (.slice (some ⟨b2,o2,none⟩) n cap):=fun {wq} hq=>by
    have q1:=hq.block b hb (by simp)
    have q2:=hq.block b2 hb2 (by simp)
    have K1:∀ {i v},wr.cell? ⟨b,i,none⟩=some v→wq.cell? ⟨b,i,none⟩=some v:=fun {i v} hv=>(World.cell?_of_block (w:=wr) (a:=⟨b,i,none⟩) q1).trans hv
    have K2:∀ {i v},wr.cell? ⟨b2,i,none⟩=some v→wq.cell? ⟨b2,i,none⟩=some v:=fun {i v} hv=>(World.cell?_of_block (w:=wr) (a:=⟨b2,i,none⟩) q2).trans hv
    exact ⟨⟨K1 c0,K1 c1,K1 c2',K1 c3,K1 c4⟩,⟨K2 d0,K2 d1,K2 d2,K2 d3,K2 d4⟩,hheap hq⟩
   have HG2:wr.grownBy wr.drew none:=grown_drew (grown_refl _ _)
   clear c0 c1 c2' c3 c4 d0 d1 d2 d3 d4 hcs hcs2 ex0 ex1 ex2 ex3 ex4 hheap
   obtain ⟨⟨c0,c1,c2',c3,c4⟩,⟨d0,d1,d2,d3,d4⟩,d5⟩:=hcell HG2
   have hkn:(k:Int)<(n:Int):=by omega
   go_wp2
   go_region_held3 (fun wq=>(wq.cell? ⟨b,o+k*5,none⟩=some (.int .u64 (x0:Nat))∧wq.cell? ⟨b,o+k*5+1,none⟩=some (.int .u64 (x1:Nat))∧wq.cell? ⟨b,o+k*5+2,none⟩=some (.bool x2)∧wq.cell? ⟨b,o+k*5+3,none⟩=some (.int .i64 x3)∧wq.cell? ⟨b,o+k*5+4,none⟩=some (.int .u64 (x4:Nat))) ∧
     (wq.cell? ⟨b2,o2+k*5,none⟩=some (.int .u64 (x0:Nat))∧wq.cell? ⟨b2,o2+k*5+1,none⟩=some (.int .u64 (x1:Nat))∧wq.cell? ⟨b2,o2+k*5+2,none⟩=some (.bool x2)∧wq.cell? ⟨b2,o2+k*5+3,none⟩=some (.int .i64 x3)∧wq.cell? ⟨b2,o2+k*5+4,none⟩=some (.int .u64 (x4:Nat)))∧wq.cell? ⟨hb0,1,none⟩=some (.slice (some ⟨b2,o2,none⟩) n cap)) (exact hcell HG2)
    (first|(go_at_call 21;((with_reducible refine (hmd _).mono ?_);rintro e w9 ⟨rfl,hg9⟩;replace HG2:=grown_trans HG2 hg9)))
   have hend:=grown_trans hgk HG2
   go_wp2
   go_roundw
   case rel=>exact ⟨k+1,by omega,by go_num,hend⟩
   case measure=>simp [intOf];omega
  ·obtain rfl:k=n:=by omega
   go_wp2
   go_loopw [8] (fun i wr=>∃ c:Nat,c≤8∧i=.int .i64 c∧W1.grownBy wr none) (fun i _=>8 - (intOf i).toNat)
   case atStart=>exact ⟨0,Nat.zero_le _,rfl,hg⟩
   case round =>
    obtain ⟨c,hc,rfl,hgc⟩:=hrel
    rename_i wc
    by_cases hc8:c<8
    ·have hlc:=HLI.out _ c (grown_trans hg0 hgc) hc8
     have hcl:=eight_at (f:=fun c=>.slice (va c) (ln c) (vc c)) (HBX.out _ hgc) hc8
     obtain ⟨xa,exa⟩:∃ x,va c=x:=⟨_,rfl⟩
     obtain ⟨xn,exn⟩:∃ x,ln c=x:=⟨_,rfl⟩
     obtain ⟨xc,exc⟩:∃ x,vc c=x:=⟨_,rfl⟩
     simp only [exa,exn,exc] at hcl
     rw [exa,exn,exc] at hlc
     have c8:(c:Int)<8:=by omega
     clear exa exn exc
     go_wp2_with (first|(go_at_call 38;(with_reducible refine hlc.mono ?_);rintro e w5 ⟨rfl,hg5⟩))
     go_roundw
     case rel=>exact ⟨c+1,by omega,by go_num,grown_trans hgc hg5⟩
     case measure=>simp [intOf];omega
    ·obtain rfl:c=8:=by omega
     obtain ⟨⟨q0,q1,q2,q3,q4,q5,q6,q7,q8,q9⟩,_⟩:=ten_cells (HBX.out _ hgc)
     have hf1:=HFR.out _ (grown_trans hg0 hgc)
     go_wp2_with (first|(go_at_call 40;(with_reducible refine hf1.mono ?_);rintro e w6 ⟨fv,rfl,hfo,hg6⟩;obtain ⟨fa,fc,hfe⟩:=hfo.slice;subst hfe;have ht6:=HTR.out _ fa _ fc (grown_trans hg0 (grown_trans hgc hg6)) (lie_at hfo) rfl)|(go_at_call 39;(with_reducible refine ht6.mono ?_);rintro e w7 ⟨rfl,hg7⟩))
     go_ret
     exact ⟨rfl,grown_trans hg0 (grown_trans hgc (grown_trans hg6 hg7))⟩
end
end Go.Proofs.YtcbdbflgfhbikaaGreat
namespace Go.Proofs.YtcbdbflgfhbikaaGreat
open Go.RowKit
set_option maxRecDepth 100000
theorem sound_first12:SoundF (txSee (fmt48 4480) []) 4480 [freeB 3776 704] (fun _=>[]):=by
 have hf:fitsP 4480 4800:=by unfold fitsP;omega
 have e1:∀ x,txSee (fmt48 4480) [] x=if x=4472 then 704 else if x=3776 then 704 else if x=32 then 3776 else if x=40 then sumN 4480 else if x=16 then 4480 else if x=8 then 1 else if x=0 then 7161130718081542961 else 0:=fun x=>by
  rw [fmt48_yes hf,see_nil,getW_fmt (K:=600) hf]
 obtain ⟨f,ef⟩:∃ f,txSee (fmt48 4480) []=f:=⟨_,rfl⟩
 rw [ef] at e1 ⊢
 have f16:f 16=4480:=by rw [e1];rfl
 have hp:packN 704 false 0=704:=by decide
 have hhead:HeadOk f:=⟨by rw [f16];exact hf,by rw [e1];rfl,by rw [e1];rfl,by rw [f16,e1];rfl⟩
 have htold:Told f 4480 3776 [freeB 3776 704] 4480:=⟨rfl,free_is (by decide) (by decide) (by decide) (by decide) (by decide) (by decide) (by rw [e1,hp];rfl) (by rw [e1,hp];rfl),rfl⟩
 have hfr:freesB [freeB 3776 704]=[3776]:=rfl
 have hus:usedB [freeB 3776 704]=[]:=rfl
 have hung:Hung f [3776]:=by
  refine ⟨⟨fun x hx=>?_,by simp,fun x hx y hy hn=>?_⟩,?_⟩
  ·rw [List.mem_singleton.1 hx];decide
  ·rw [List.mem_singleton.1 hx,List.mem_singleton.1 hy] at hn;exact absurd rfl hn
  ·have e32:f 32=3776:=by rw [e1];rfl
   rw [e32]
   refine TreeOf.node (L:=[]) (R:=[]) (by decide) (by simp) (by simp) ?_ ?_
   ·rw [show f (3776+8)=0 by rw [e1];rfl];exact TreeOf.nil
   ·rw [show f (3776+16)=0 by rw [e1];rfl];exact TreeOf.nil
 have hF:HeapF f 4480 [freeB 3776 704]:=⟨hhead,f16,by decide,htold,hung⟩
 refine hF.sound trivial ?_ ?_
 ·refine ⟨by simp,by simp,by simp,fun c hc=>?_,fun c hc=>trivial⟩
  have:=slotH_lt hc
  have h2:slotH c≠32∧slotH c≠40∧slotH c≠16∧slotH c≠8∧slotH c≠0:=by unfold slotH;omega
  rw [e1,if_neg (by omega),if_neg (by omega),if_neg h2.1,if_neg h2.2.1,if_neg h2.2.2.1,if_neg h2.2.2.2.1,if_neg h2.2.2.2.2]
  rfl
 ·intro b hb hu
  rw [List.mem_singleton.1 hb] at hu
  cases hu
end Go.Proofs.YtcbdbflgfhbikaaGreat
