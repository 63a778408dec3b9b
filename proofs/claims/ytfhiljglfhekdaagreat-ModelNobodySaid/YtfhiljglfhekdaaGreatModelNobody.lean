/-
  A state is made just of sizes that fit; nobody's tells nothing; what is told is shared with nothing. The statement ModelNobody; no condition.
-/
import Derived.Test.YtfhiljglfhekdaaGreatLEnb
import Derived.Test.YtfhiljglfhekdaaGreatKogH
import Derived.Test.YtfhiljglfhekdaaGreatLZza
import Derived.Test.YtfhiljglfhekdaaGreatRows
import Derived.Lib.SmallJoins
import Derived.ProofKit
import Derived.OpenShut
import Derived.Carry
import Derived.Deep.RegionHeld3
import Derived.ChangeOld
namespace Go.Proofs.YtfhiljglfhekdaaGreat.modelNobody
open Go.ChangeShapes Go.WideShapes Go.ChangeAt Go.RowKit
open Go.ChangeMaps (open_string shut_string)
set_option linter.unusedVariables false
set_option linter.unusedSimpArgs false
set_option maxRecDepth 100000

/-- amid the writing into what was told -/
structure NbI (W4:World) (g:Nat) (S:MS) (W:World):Prop where
 gr:W4.grownBy W none
 blk:∃ cur,W.heap[g]?=some (.cells cur 53 (0,0))
 row:∀ i,i<S.bs.length→∃ pa pc,W.cell? ⟨g,i*6+5,none⟩=some (.slice pa (wdL S i).length pc)∧(0<(wdL S i).length→∃ q cur,pa=some ⟨q,0,none⟩∧W4.heap.size≤q∧W.heap[q]?=some (.cells cur 26 (0,0))∧(wdL S i).length≤cur.size)
theorem NbI.first {W4 W:World} {g:Nat} {S:MS} (h:BkAt W W4.heap.size W4.heap.size 53 (some ⟨g,0,none⟩) S) (hp:0<S.bs.length) (hg:W4.grownBy W none):NbI W4 g S W:=by
 refine ⟨hg,?_,fun i hi=>?_⟩
 ·obtain ⟨g',p,cur,e,-,hb,-⟩:=h.row 0 hp
  injection e with e
  injection e with e _ _
  subst e
  exact ⟨cur,hb⟩
 ·obtain ⟨g',pa,pc,e,-,hat⟩:=h.at_ hi
  injection e with e
  injection e with e _ _
  subst e
  obtain ⟨⟨-,-,-,-,-,y5⟩,ho⟩:=hat W (Yag _ _)
  refine ⟨pa,pc,y5,fun hl=>?_⟩
  rcases ho.2 with ⟨k1,k2⟩|⟨q,cap,cur,k1,k2,k3,k4,k5,k6,k7⟩
  ·omega
  ·injection k1 with k1 _ _
   exact ⟨q,cur,k1,k2,k3,by omega⟩
theorem NbI.set {W4 W W1:World} {g q k:Nat} {S:MS} {cur:Array Value} {v:Value} (h:NbI W4 g S W) (hq:W4.heap.size≤q) (hb:W.heap[q]?=some (.cells cur 26 (0,0))) (hg:W.grownBy W1 (some q)) (hb1:W1.heap[q]?=some (.cells (cur.setIfInBounds k v) 26 (0,0))):NbI W4 g S W1:=by
 obtain ⟨cg,hcg⟩:=h.blk
 have hne:g≠q:=Ybu hcg hb (by decide)
 refine ⟨Yaj h.gr hg (fun i hi=>.inl (by injection hi with hi;omega)),⟨cg,Ya3 hcg hg hne⟩,fun i hi=>?_⟩
 obtain ⟨pa,pc,y5,hr⟩:=h.row i hi
 refine ⟨pa,pc,(World.cell?_of_block (w:=W) (a:=⟨g,i*6+5,none⟩) (hg.block _ (lt_of_block hcg) (fun e=>hne (by injection e)))).trans y5,fun hl=>?_⟩
 obtain ⟨q2,cur2,e1,e2,e3,e4⟩:=hr hl
 by_cases hqq:q2=q
 ·subst hqq
  rw [hb] at e3
  injection e3 with e3
  injection e3 with e3 _ _
  subst e3
  exact ⟨q2,_,e1,e2,hb1,by simpa using e4⟩
 ·exact ⟨q2,cur2,e1,e2,Ya3 e3 hg hqq,e4⟩
theorem sizes_may (size all:Nat):SizesOk size all↔mayM size all:=by
 unfold SizesOk mayM fitsP
 constructor
 ·rintro ⟨h1,h2,h3,h4,h5⟩;exact ⟨⟨h1,h2,h3⟩,h4,h5⟩
 ·rintro ⟨⟨h1,h2,h3⟩,h4,h5⟩;exact ⟨h1,h2,h3,h4,h5⟩
theorem nil_do (W:World):Calls Tryz.prog 13 #[.pointer none,.int .i64 1,.agg #[.int .i64 15,.int .u64 0,.int .u64 0,.int .u64 0,.int .u64 0,.int .u64 0,.int .i64 0,.string ⟨#[]⟩]] W fun e w'=>e=.returned (.agg #[.int .i64 1,.int .u64 0,.int .u64 0])∧W.grownBy w' none:=by
 have:=mdo_nil (w:=W) (c:=1) (x:=attM)
 rw [att_lit] at this
 exact this
set_option maxHeartbeats 16000000 in
theorem core {size all:Nat} {w:World} {la:Option Addr} {c:Nat} {l:List Yc4} (hn:l.length≤maxLen) (ho:∀ q∈l,Yda q) (hp:Yco w la l) (hs:size<18446744073709551616) (ha:all<18446744073709551616):Calls Tryz.prog 8 #[.int .u64 (size:Nat),.int .u64 (all:Nat),.slice la l.length c] w fun e w'=>e=.returned (.bool true)∧w.grownBy w' none:=by
 have HG0:Hid (w.grownBy w none):=Lib.hid (Yag _ _)
 rcases Bool.eq_false_or_eq_true (fewL l) with hf|hf
 ·have h25:=(fewL_is hf).1
  go_enter Tryz.func8,Tryz.ntmps8
  go_wp2_with (first
   | (go_at_call 9;go_must ((with_reducible refine (Yc3 _).mono ?_);rintro en w1 ⟨rfl,hg1'⟩;have hg1:=Yaa HG0.out hg1';have hc1:=few14 (c:=c) (hp.later hg1) rfl hn;rw [hf] at hc1))
   | (go_at_call 10;go_must ((with_reducible refine hc1.mono ?_);rintro en w2 ⟨rfl,hw2⟩;subst w2))
   | (go_at_call 17;go_must ((with_reducible refine (kill_nil _ _).mono ?_);rintro en v1 ⟨rfl,hv1⟩;subst v1))
   | (go_at_call 13;go_must ((with_reducible refine (nil_do _).mono ?_);rintro en v2 ⟨rfl,hv2⟩;have z9:=Yab v2 (.cells #[.int .i64 0,.int .u64 0,.int .u64 0] 46);have g9:=World.grownBy_alloc v2 (.cells #[.int .i64 0,.int .u64 0,.int .u64 0] 46) none;obtain ⟨Z9,hZ9⟩:∃ Z,v2.alloc (.cells #[.int .i64 0,.int .u64 0,.int .u64 0] 46)=Z:=⟨_,rfl⟩;rw [hZ9] at z9 g9;have G9:=Yaa hv2 g9;have l9:=hv2.size))
   | (refine Yae rfl 46 _ _ rfl _ 0 rfl rfl z9 (by exact Nat.le_refl _) (by exact Ya0) (by simp [Value.oneCell']) ?_;intro W9 b9 k9;rw [Yau _ _ (by rfl)] at b9;have G91:=Yaj G9 k9 (fun i hi=>.inl (by injection hi with hi;omega));have G90:=Yaa hg1 G91;have hc2:=played14 (c:=c) (hp.later G90) ho rfl h25)
   | (go_at_call 11;go_must ((with_reducible refine hc2.mono ?_);rintro en w3 ⟨P,base,K,S,cs,rfl,s0,s1,hK,hPl⟩;have z7:=Yab w3 (.cells sZ 36);have g7:=World.grownBy_alloc w3 (.cells sZ 36) none;obtain ⟨Z7,hZ7⟩:∃ Z,w3.alloc (.cells sZ 36)=Z:=⟨_,rfl⟩;rw [hZ7] at z7 g7;unfold sZ at hZ7;have hPz:=hPl.later g7;have l7:=hPl.gr.size))
   | (refine Yae rfl 36 _ _ rfl _ 0 rfl rfl z7 (by rw [s0];exact Nat.le_refl _) (by rw [Yai,s0]) s1 ?_;intro W4 p4 g4;rw [Yau _ _ s0] at p4;have hP4:=hPz.past g4 z7 l7 Ybt (by decide) (by decide);have G4:=Yaa G90 hP4.gr;have b94:=Yan b9 hP4.gr;have hc5:=hP4.blocks)
   | (go_at_call 15;go_must ((with_reducible refine hc5.mono ?_);rintro en w6 ⟨g,gc,rfl,hB6,hg6⟩)))
  have hpos:=hm_pos hP4.hm hP4.lo
  have hnb:=NbI.first hB6 hpos hg6
  have hwl:∀ i,i<S.bs.length→(wdL S i).length≤1000:=fun i hi=>wdL_len hP4.hm hi
  have hfew:=hP4.hm.hs.few
  obtain ⟨m,hm⟩:∃ m,S.bs.length=m:=⟨_,rfl⟩
  rw [hm] at hwl hfew
  rw [hm]
  have HM':=Lib.hid hm
  have HNB:=Lib.hid hnb
  have HWL:=Lib.hid hwl
  have HP4:=Lib.hid hP4
  have HP:=Lib.hid p4
  have HB9:=Lib.hid b94
  have HG4:=Lib.hid G4
  clear hpos hnb hwl hm hP4 p4 b94 b9 G4 hB6 hg6 hPz hPl z7 z9 g7 g9 g4 k9 l7 l9 hc1 hc2 hc5 hp ho hn G9 G91 G90 hv2 hg1'
  go_loopw [14] (fun u wr=>∃ i:Nat,i≤m∧u=.int .i64 i∧NbI W4 g S wr) (fun u _=>m - (intOf u).toNat)
  case atStart=>exact ⟨0,Nat.zero_le _,rfl,HNB.out⟩
  case round =>
   obtain ⟨i,hi,rfl,hI⟩:=hrel
   by_cases h1:i<m
   ·have h1':(i:Int)<(m:Int):=by omega
    have hil:i<S.bs.length:=by rw [HM'.out];exact h1
    have hwi:=HWL.out i h1
    obtain ⟨L,eL⟩:∃ L,(wdL S i).length=L:=⟨_,rfl⟩
    have hrow:∀ W,NbI W4 g S W→∃ pa pc,W.cell? ⟨g,i*6+5,none⟩=some (.slice pa L pc)∧(0<L→∃ q cur,pa=some ⟨q,0,none⟩∧W4.heap.size≤q∧W.heap[q]?=some (.cells cur 26 (0,0))∧L≤cur.size):=fun W h=>by
     have:=h.row i hil
     rw [eL] at this
     exact this
    rw [eL] at hwi
    have HROW:=Lib.hid hrow
    have HI:=Lib.hid hI
    clear hrow hil eL hI
    go_wp2
    go_loopw [15] (fun u wr=>∃ k:Nat,k≤L∧u=.int .i64 k∧NbI W4 g S wr) (fun u _=>L - (intOf u).toNat)
    case atStart=>exact ⟨0,Nat.zero_le _,rfl,HI.out⟩
    case round =>
     obtain ⟨k,hk,rfl,hJ⟩:=hrel
     obtain ⟨pa,pc,y5,hr⟩:=HROW.out _ hJ
     have HJ:=Lib.hid hJ
     clear hJ
     by_cases h2:k<L
     ·have h2':(k:Int)<(L:Int):=by omega
      obtain ⟨q,cur,ea,hq,hb,hcs⟩:=hr (by omega)
      subst ea
      have hkc:k<cur.size:=by omega
      clear hr
      go_wp2_with (refine Ybd rfl 26 _ _ rfl _ _ rfl rfl hb hkc (by exact info_wd1) rfl ?_;intro W8 p8 g8)
      go_roundw
      case rel=>exact ⟨k+1,by omega,by go_num,HJ.out.set hq hb g8 p8⟩
      case measure=>simp [intOf];omega
     ·have h2':¬ (k:Int)<(L:Int):=by omega
      have HK:=Lib.hid hk
      clear hr hk h2
      go_wp2
      go_roundw
      case rel=>exact ⟨i+1,by omega,by go_num,HJ.out⟩
      case measure=>simp [intOf];omega
   ·have h1':¬ (i:Int)<(m:Int):=by omega
    have hP5:=HP4.out.later hI.gr
    have p5:=Yan HP.out hI.gr
    have b95:=Yan HB9.out hI.gr
    have hsm:=same14 hP5 (by omega)
    have G5:=Yaa HG4.out hI.gr
    obtain ⟨m0,m1,m2⟩:=Yaf b95
    clear h1 hi hI
    by_cases hbig:1048576<size
    ·have hbig':(1048576:Int)<(size:Int):=by omega
     go_wp2_with (first
      | (refine Ycd (by kernel_rfl) 36 _ rfl _ 0 rfl p5 cs (fun j v hj=>by simpa using hj) _ Tryz.underlying36 rfl (by rw [Yai,s0]) ?_)
      | (go_at_call 12;go_must ((with_reducible refine hsm.mono ?_);rintro en w10 ⟨rfl,hg10⟩;obtain ⟨n0,n1,n2⟩:=Yaf (Yan b95 hg10)))
      | (go_at_call 15;go_must ((with_reducible refine (blocks_nil _).mono ?_);rintro en x1 ⟨rfl,hx1⟩;subst x1))
      | (go_at_call 20;go_must ((with_reducible refine (entries_nil _).mono ?_);rintro en x2 ⟨rfl,hx2⟩;subst x2))
      | (go_at_call 21;go_must ((with_reducible refine (live_nil _).mono ?_);rintro en x3 ⟨rfl,hx3⟩;subst x3))
      | (go_at_call 22;go_must ((with_reducible refine (size_nil _).mono ?_);rintro en x4 ⟨rfl,hx4⟩;subst x4)))
     go_ret
     exact ⟨rfl,Yaa G5 hg10⟩
    ·have hbig':¬ (1048576:Int)<(size:Int):=by omega
     have hmay:=fun V:World=>rmay14 (w:=V) size all
     by_cases hok:SizesOk size all
     ·simp only [decide_eq_true ((sizes_may size all).1 hok)] at hmay
      have HMY:=Lib.hid hmay
      go_wp2_with (first
       | (refine Ycd (by kernel_rfl) 36 _ rfl _ 0 rfl p5 cs (fun j v hj=>by simpa using hj) _ Tryz.underlying36 rfl (by rw [Yai,s0]) ?_)
       | (go_at_call 12;go_must ((with_reducible refine hsm.mono ?_);rintro en w10 ⟨rfl,hg10⟩;obtain ⟨n0,n1,n2⟩:=Yaf (Yan b95 hg10)))
       | (go_at_call 15;go_must ((with_reducible refine (blocks_nil _).mono ?_);rintro en x1 ⟨rfl,hx1⟩;subst x1))
       | (go_at_call 20;go_must ((with_reducible refine (entries_nil _).mono ?_);rintro en x2 ⟨rfl,hx2⟩;subst x2))
       | (go_at_call 21;go_must ((with_reducible refine (live_nil _).mono ?_);rintro en x3 ⟨rfl,hx3⟩;subst x3))
       | (go_at_call 22;go_must ((with_reducible refine (size_nil _).mono ?_);rintro en x4 ⟨rfl,hx4⟩;subst x4))
       | (go_at_call 23;go_must ((with_reducible refine (mnew_ok hok).mono ?_);rintro en x5 ⟨rfl,-,hg5⟩))
       | (go_at_call 24;go_must ((with_reducible refine (hmay _).mono ?_);rintro en x6 ⟨rfl,hx6⟩;subst x6)))
      go_ret
      exact ⟨rfl,Yaa G5 (Yaa hg10 hg5)⟩
     ·simp only [decide_eq_false (fun k=>hok ((sizes_may size all).2 k))] at hmay
      go_wp2_with (first
       | (refine Ycd (by kernel_rfl) 36 _ rfl _ 0 rfl p5 cs (fun j v hj=>by simpa using hj) _ Tryz.underlying36 rfl (by rw [Yai,s0]) ?_)
       | (go_at_call 12;go_must ((with_reducible refine hsm.mono ?_);rintro en w10 ⟨rfl,hg10⟩;obtain ⟨n0,n1,n2⟩:=Yaf (Yan b95 hg10)))
       | (go_at_call 15;go_must ((with_reducible refine (blocks_nil _).mono ?_);rintro en x1 ⟨rfl,hx1⟩;subst x1))
       | (go_at_call 20;go_must ((with_reducible refine (entries_nil _).mono ?_);rintro en x2 ⟨rfl,hx2⟩;subst x2))
       | (go_at_call 21;go_must ((with_reducible refine (live_nil _).mono ?_);rintro en x3 ⟨rfl,hx3⟩;subst x3))
       | (go_at_call 22;go_must ((with_reducible refine (size_nil _).mono ?_);rintro en x4 ⟨rfl,hx4⟩;subst x4))
       | (go_at_call 23;go_must ((with_reducible refine (mnew_not hs ha hok).mono ?_);rintro en x5 ⟨rfl,hx5⟩;subst x5))
       | (go_at_call 24;go_must ((with_reducible refine (hmay _).mono ?_);rintro en x6 ⟨rfl,hx6⟩;subst x6)))
      go_ret
      exact ⟨rfl,Yaa G5 hg10⟩
 ·go_enter Tryz.func8,Tryz.ntmps8
  go_wp2_with (first
   | (go_at_call 9;go_must ((with_reducible refine (Yc3 _).mono ?_);rintro en w1 ⟨rfl,hg1'⟩;have hg1:=Yaa HG0.out hg1';have hc1:=few14 (c:=c) (hp.later hg1) rfl hn;rw [hf] at hc1))
   | (go_at_call 10;go_must ((with_reducible refine hc1.mono ?_);rintro en w2 ⟨rfl,hw2⟩;subst w2)))
  go_ret
  exact ⟨rfl,hg1⟩
theorem walk {w:World} {la:Option Addr} {c:Nat} {l:List Yc4} (s:Int) (hs:(Lit.int .u64 s).wf=true) (a:Int) (ha:(Lit.int .u64 a).wf=true) (hn:l.length≤maxLen) (ho:∀ q∈l,Yda q) (hp:Yco w la l) :
  Calls Tryz.prog 8 #[.int .u64 s,.int .u64 a,.slice la l.length c] w fun e w'=>e=.returned (.bool true)∧Below w.heap.size w w':=by
 have hb:=bounds_u64 hs
 have hb2:=bounds_u64 ha
 obtain ⟨n,rfl⟩:=Int.eq_ofNat_of_zero_le hb.1
 obtain ⟨k,rfl⟩:=Int.eq_ofNat_of_zero_le hb2.1
 exact (core (c:=c) (size:=n) (all:=k) hn ho hp (by omega) (by omega)).mono fun e w' ⟨h1,h2⟩=>⟨h1,⟨h2.os,h2.tape,h2.output,h2.size,fun k hk=>h2.block k hk (by simp)⟩⟩
theorem laidOut:laidOutB Tryz.prog=true:=by kernel_rfl
/-! ### The row's step: the guide's frame -/
theorem own:ownKnob Tryz.prog.godebug=none:=by kernel_rfl
set_option maxRecDepth 100000 in
theorem lifted (os:Os) (started:os.Started) (H:Type) (enc:TypeId × Value→H) :
  ReturnsInHanded {} Tryz.checked os 8 .any (Rows.modelNobodySpec.pre6 enc Tryz.prog Tryz.f8 Rows.modelNobodyRow.domain false) (Rows.modelNobodySpec.post enc Tryz.prog Tryz.f8 false true false false):=by
 refine returnsInHanded_of_change (C:=Tryz.checked) own started (by kernel_rfl) Tryz.func8
  (ChangeSpec.witness6 (enc:=enc) (C:=Tryz.checked) false ⟨#[],#[.int .u64 0,.int .u64 0,.slice none 0 0],[]⟩ 8 (by kernel_rfl) (by kernel_rfl) (by kernel_rfl) (by kernel_rfl)) ?_
 intro W base args ds gs before hval0 hW hcnd _
 have hval:∀ (j:Nat) t v,Tryz.f8.params[j]?=some t→args[j]?=some v→Value.okWide Tryz.prog W .any base t v:=hval0
 have hW':=hW
 obtain ⟨p,q,hA0,hV,rfl,hfz,hnd⟩:=hW
 have hA:DataW.TrodAll enc Tryz.prog W 0 (fun _=>true) true Tryz.f8.params.toList args.toList ds p:=hA0
 rw [Tryz.params8] at hA hval
 obtain ⟨v0,vs0,d0,ds0,p0,q0,hargs,rfl,rfl,h0,r0⟩:=trodAll_cons hA
 obtain ⟨v1,vs1,d1,ds1,p1,q1,rfl,rfl,rfl,h1,r1⟩:=trodAll_cons r0
 obtain ⟨v2,vs2,d2,ds2,p2,q2,rfl,rfl,rfl,h2,r2⟩:=trodAll_cons r1
 obtain ⟨rfl,rfl,rfl⟩:=trodAll_nil r2
 obtain rfl:args=#[v0,v1,v2]:=by cases args;simp_all
 obtain ⟨rfl,rfl⟩:=trodVars_none hV
 obtain ⟨a0,rfl,rfl,rfl,w0⟩:=open_int Tryz.underlying26 (hval 0 26 v0 rfl rfl) h0
 obtain ⟨a1,rfl,rfl,rfl,w1⟩:=open_int Tryz.underlying26 (hval 1 26 v1 rfl rfl) h1
 have lt2:∀ x∈p2,x.block<W.heap.size:=by obtain ⟨m,hm⟩:=h2;exact DataW.trod_lt m _ _ _ hm
 obtain ⟨la2,c2,l2,rfl,hc2,hn2,ho2,hp2⟩:=Yd4 (hval 2 22 v2 rfl rfl) h2
 clear hA0 hval0
 refine (walk a0 w0 a1 w1 hn2 ho2 hp2).mono fun e W' ⟨he,bel⟩=>?_
 subst he
 exact ⟨_,rfl,_,_,_,[],_,[],hW',trodAll_mk1 (shut_bool Tryz.underlying4 _),(trodAll_cons_mk (shut_int Tryz.underlying26 w0) (trodAll_cons_mk (shut_int Tryz.underlying26 w1) (trodAll_cons_mk (Below.trod laidOut (by kernel_rfl) (of_decide_eq_true (by kernel_rfl)) h2 bel lt2) trodAll_mk0))),rfl,bel.frame _,fun h=>by cases h⟩

theorem over:Rows.modelNobodyRow.holds Tryz.pinned (OpenSpec.ofChange Rows.modelNobodySpec) :=
 OpenClaim.holds_of_wide 8 Tryz.f8 rfl rfl rfl rfl rfl rfl rfl ⟨rfl,rfl,rfl,rfl,rfl⟩ rfl rfl rfl rfl rfl (by kernel_rfl) Tryz.func8 (by kernel_rfl)
  (of_decide_eq_true (by kernel_rfl)) (by unfold Func.isWrapper;first|(rw [if_pos (by decide +kernel)];kernel_rfl)|(rw [if_neg (by decide +kernel)];exact ⟨rfl,rfl⟩))
  (fun os started H enc _=>lifted os started H enc)

theorem proved:Rows.ModelNobodySaid :=
 over
#print axioms proved


end Go.Proofs.YtfhiljglfhekdaaGreat.modelNobody
