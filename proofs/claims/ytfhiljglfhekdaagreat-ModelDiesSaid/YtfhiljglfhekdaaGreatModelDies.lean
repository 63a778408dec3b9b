/-
  Behind a death nothing is the dead one's, all others' blocks stand as they did, and what is everybody's; it may come again. The statement ModelDies; no condition.
-/
import Derived.Test.YtfhiljglfhekdaaGreatLEnb
import Derived.Test.YtfhiljglfhekdaaGreatKogH
import Derived.Test.YtfhiljglfhekdaaGreatLZza
import Derived.Test.YtfhiljglfhekdaaGreatRows
import Derived.Lib.SmallJoins
import Derived.ProofKit
import Derived.OpenShut
import Derived.Carry
import Derived.Deep.RegionHeld3
import Derived.ChangeOld
namespace Go.Proofs.YtfhiljglfhekdaaGreat.modelDies
open Go.ChangeShapes Go.WideShapes Go.ChangeAt Go.RowKit
open Go.ChangeMaps (open_string shut_string)
set_option linter.unusedVariables false
set_option linter.unusedSimpArgs false
set_option maxRecDepth 100000

theorem att_in {S:MS} {k:Int} (h:0≤k∧k<8):∃ S',Ybz 4800 (Ycy S k) k attM S' 0 0 0:=by
 have hl:(Ycy S k).lv k.toNat=false:=by
  unfold Ycy
  rw [if_pos h]
  simp [killM,oth]
 exact ⟨_,.attach (k:=k.toNat) (by omega) (by omega) rfl hl⟩
theorem att_out {S:MS} {k:Int} (h:¬ (0≤k∧k<8)):∃ S',Ybz 4800 S k attM S' 1 0 0:=⟨_,.arg (.inr (.inr (by omega)))⟩
set_option maxHeartbeats 16000000 in
theorem core {w:World} {la:Option Addr} {c:Nat} {l:List Yc4} (hn:l.length≤maxLen) (ho:∀ q∈l,Yda q) (hp:Yco w la l) {k:Int} (hk : -9223372036854775808≤k∧k≤9223372036854775807):Calls Tryz.prog 6 #[.slice la l.length c,.int .i64 k] w fun e w'=>e=.returned (.bool true)∧w.grownBy w' none:=by
 have HG0:Hid (w.grownBy w none):=Lib.hid (Yag _ _)
 rcases Bool.eq_false_or_eq_true (fewL l) with hf|hf
 ·have h25:=(fewL_is hf).1
  have HKB:=Lib.hid hk
  go_enter Tryz.func6,Tryz.ntmps6
  go_wp2_with (first
   | (go_at_call 9;go_must ((with_reducible refine (Yc3 _).mono ?_);rintro en w1 ⟨rfl,hg1'⟩;have hg1:=Yaa HG0.out hg1';have hc1:=few14 (c:=c) (hp.later hg1) rfl hn;rw [hf] at hc1))
   | (go_at_call 10;go_must ((with_reducible refine hc1.mono ?_);rintro en w2 ⟨rfl,hw2⟩;subst w2;have hc2:=played14 (c:=c) (hp.later hg1) ho rfl h25))
   | (go_at_call 11;go_must ((with_reducible refine hc2.mono ?_);rintro en w3 ⟨P,base,K,S,cs,rfl,s0,s1,hK,hPl⟩;have z7:=Yab w3 (.cells sZ 36);have g7:=World.grownBy_alloc w3 (.cells sZ 36) none;obtain ⟨Z7,hZ7⟩:∃ Z,w3.alloc (.cells sZ 36)=Z:=⟨_,rfl⟩;rw [hZ7] at z7 g7;unfold sZ at hZ7;have hPz:=hPl.later g7;have l7:=hPl.gr.size))
   | (refine Yae rfl 36 _ _ rfl _ 0 rfl rfl z7 (by rw [s0];exact Nat.le_refl _) (by rw [Yai,s0]) s1 ?_;intro W4 p4 g4;rw [Yau _ _ s0] at p4;have hP4:=hPz.past g4 z7 l7 Ybt (by decide) (by decide);have G4:=Yaa hg1 hP4.gr;have hc5:=hP4.kill k)
   | (go_at_call 17;go_must ((with_reducible refine hc5.mono ?_);rintro en w5 ⟨rfl,hK5,hs5⟩;have p5:=hs5.box p4 (by decide) (by decide) (by decide);have hc6:=hK5.died (by omega)))
   | (refine Yad rfl 36 _ rfl _ 0 rfl p5 cs (fun j v hj=>by simpa using hj) _ Tryz.underlying36 rfl (by rw [Yai,s0]) ?_)
   | (go_at_call 18;go_must ((with_reducible refine hc6.mono ?_);rintro en w6 ⟨cs2,rfl,t0,t1,hP6,hg6⟩;have z9:=Yab w6 (.cells sZ 36);have g9:=World.grownBy_alloc w6 (.cells sZ 36) none;obtain ⟨Z9,hZ9⟩:∃ Z,w6.alloc (.cells sZ 36)=Z:=⟨_,rfl⟩;rw [hZ9] at z9 g9;unfold sZ at hZ9;have hP7:=hP6.later g9;have l9:=hP6.gr.size))
   | (refine Yae rfl 36 _ _ rfl _ 0 rfl rfl z9 (by rw [t0];exact Nat.le_refl _) (by rw [Yai,t0]) t1 ?_;intro W8 p8 g8;rw [Yau _ _ t0] at p8;have hP8:=hP7.past g8 z9 l9 Ybt (by decide) (by decide);have hc8:=hP8.blocks)
   | (go_at_call 15;go_must ((with_reducible refine hc8.mono ?_);rintro en w9 ⟨g,gc,rfl,hB9,hg9⟩)))
  have hM8:=hP8.hm
  have hno:=fun i (hi:i<(Ycy S k).bs.length)=>kill_at hP4.hm hi (k:=k)
  obtain ⟨n,hn'⟩:∃ n,(Ycy S k).bs.length=n:=⟨_,rfl⟩
  have hfew:=hM8.hs.few
  rw [hn'] at hno hfew
  rw [hn']
  have HB9:=Lib.hid hB9
  have HN':=Lib.hid hn'
  have HNO:=Lib.hid hno
  have HP8:=Lib.hid hP8
  have HPB:=Lib.hid p8
  have HG9:=Lib.hid hg9
  have HG1:=Lib.hid hg1
  clear hB9 hn' hno hP8 p8 hM8 hP7 hP6 hK5 hP4 hPz hPl p4 p5 z7 z9 g7 g9 g4 g8 hs5 hc5 hc6 hc8 hc1 hc2 hp ho hn hk l7 l9 hg6 hg1' G4
  obtain ⟨kw,hkw⟩:∃ kw,IntKind.i64.wrap (k+1)=kw:=⟨_,rfl⟩
  have HKW:=Lib.hid hkw
  go_loopw [11] (fun u wr=>∃ i:Nat,i≤n∧u=.int .i64 i∧w9.grownBy wr none) (fun u _=>n - (intOf u).toNat)
  case atStart=>exact ⟨0,Nat.zero_le _,rfl,Yag _ _⟩
  case round =>
   obtain ⟨i,hi,rfl,hgr⟩:=hrel
   by_cases h1:i<n
   ·have h1':(i:Int)<(n:Int):=by omega
    obtain ⟨g',pa,pc,eg,-,hat⟩:=HB9.out.at_ (k:=i) (by rw [HN'.out];exact h1)
    injection eg with eg
    injection eg with eg _ _
    subst eg
    obtain ⟨⟨-,-,y2,y3,-,-⟩,-⟩:=hat _ hgr
    have hx:=HNO.out i h1
    obtain ⟨u,eu⟩:∃ u,((Ycy S k).bs.getD i default).u=u:=⟨_,rfl⟩
    obtain ⟨ow,eo⟩:∃ ow,((Ycy S k).bs.getD i default).o=ow:=⟨_,rfl⟩
    rw [eu] at y2 hx
    rw [eo] at y3 hx
    have hwr:IntKind.i64.wrap (k+1)=k+1∨(k=9223372036854775807∧IntKind.i64.wrap (k+1) = -9223372036854775808):=by
     have:=HKB.out
     by_cases q:k<9223372036854775807
     ·left;rw [IntKind.wrap_i64];omega
     ·right;obtain rfl:k=9223372036854775807:=by omega
      exact ⟨rfl,by decide⟩
    rw [HKW.out] at hwr
    have HX:=Lib.hid hx
    have HWR:=Lib.hid hwr
    clear eu eo hat hx hwr
    by_cases ho1:ow=kw
    ·have ho2:(ow == kw)=true:=by simp [ho1]
     cases u with
     | true =>
      have hk0:¬ (0:Int)≤k:=fun h0=>by
       have q1:=HX.out rfl
       have q2:=q1.2 h0
       rcases HWR.out with q|⟨q3,q⟩ <;> omega
      clear ho1
      go_wp2
      go_roundw
      case rel=>exact ⟨i+1,by omega,by go_num,hgr⟩
      case measure=>simp [intOf];omega
     | false =>
      clear ho1
      go_wp2
      go_roundw
      case rel=>exact ⟨i+1,by omega,by go_num,hgr⟩
      case measure=>simp [intOf];omega
    ·have ho2:(ow == kw)=false:=by simp [ho1]
     go_wp2
     go_roundw
     case rel=>exact ⟨i+1,by omega,by go_num,hgr⟩
     case measure=>simp [intOf];omega
   ·have h1':¬ (i:Int)<(n:Int):=by omega
    clear h1 hi
    have hP9:=HP8.out.later (Yaa HG9.out hgr)
    have p9:=Yan HPB.out (Yaa HG9.out hgr)
    have hsm:=same14 hP9 (by omega)
    by_cases h8:0≤k∧k<8
    ·have k0:(0:Int)≤k:=h8.1
     have k8:k<8:=h8.2
     obtain ⟨S9,ha⟩:=att_in (S:=S) h8
     have hdo:∀ V,wr.grownBy V none→Calls Tryz.prog 13 #[.pointer (some ⟨P,0,none⟩),.int .i64 k,.agg #[.int .i64 15,.int .u64 0,.int .u64 0,.int .u64 0,.int .u64 0,.int .u64 0,.int .i64 0,.string ⟨#[]⟩]] V fun en W1=>en=.returned (.agg #[.int .i64 0,.int .u64 0,.int .u64 0])∧PlH w1 P _ (.agg cs2) K (Ycy S k) S9 W1∧Ybw w1 V W1:=fun V hV=>by
      have:=(hP9.later hV).code att_ok ha
      rw [att_lit] at this
      exact this
     have HDO:=Lib.hid hdo
     clear hdo ha hP9
     go_wp2_with (first
      | (refine Yad rfl 36 _ rfl _ 0 rfl p9 cs2 (fun j v hj=>by simpa using hj) _ Tryz.underlying36 rfl (by rw [Yai,t0]) ?_)
      | (go_at_call 12;go_must ((with_reducible refine hsm.mono ?_);rintro en w10 ⟨rfl,hg10⟩;have hc10:=HDO.out _ hg10))
      | (go_at_call 13;go_must ((with_reducible refine hc10.mono ?_);rintro en w11 ⟨rfl,hH11,-⟩;have z12:=Yab w11 (.cells #[.int .i64 0,.int .u64 0,.int .u64 0] 46);have g12:=World.grownBy_alloc w11 (.cells #[.int .i64 0,.int .u64 0,.int .u64 0] 46) none;obtain ⟨Z12,hZ12⟩:∃ Z,w11.alloc (.cells #[.int .i64 0,.int .u64 0,.int .u64 0] 46)=Z:=⟨_,rfl⟩;rw [hZ12] at z12 g12;have hH12:=hH11.later g12;have l12:=hH11.gr.size))
      | (refine Yae rfl 46 _ _ rfl _ 0 rfl rfl z12 (by exact Nat.le_refl _) (by exact Ya0) (by simp [Value.oneCell']) ?_;intro W13 p13 g13;rw [Yau _ _ (by rfl)] at p13;have hH13:=hH12.past g13 z12 l12 boxRs (by decide) (by decide);obtain ⟨m0,m1,m2⟩:=Yaf p13))
     go_ret
     refine ⟨?_,Yaa HG1.out hH13.gr⟩
     first|rfl|(show Ending.returned (.bool (!decide (k<8)))=_;rw [decide_eq_false (by omega)];rfl)
    ·by_cases k0:(0:Int)≤k
     ·have k8:¬ k<8:=by omega
      obtain ⟨S9,ha⟩:=att_out (S:=Ycy S k) h8
      have hdo:∀ V,wr.grownBy V none→Calls Tryz.prog 13 #[.pointer (some ⟨P,0,none⟩),.int .i64 k,.agg #[.int .i64 15,.int .u64 0,.int .u64 0,.int .u64 0,.int .u64 0,.int .u64 0,.int .i64 0,.string ⟨#[]⟩]] V fun en W1=>en=.returned (.agg #[.int .i64 1,.int .u64 0,.int .u64 0])∧PlH w1 P _ (.agg cs2) K (Ycy S k) S9 W1∧Ybw w1 V W1:=fun V hV=>by
       have:=(hP9.later hV).code att_ok ha
       rw [att_lit] at this
       exact this
      have HDO:=Lib.hid hdo
      clear hdo ha hP9
      go_wp2_with (first
       | (refine Yad rfl 36 _ rfl _ 0 rfl p9 cs2 (fun j v hj=>by simpa using hj) _ Tryz.underlying36 rfl (by rw [Yai,t0]) ?_)
       | (go_at_call 12;go_must ((with_reducible refine hsm.mono ?_);rintro en w10 ⟨rfl,hg10⟩;have hc10:=HDO.out _ hg10))
       | (go_at_call 13;go_must ((with_reducible refine hc10.mono ?_);rintro en w11 ⟨rfl,hH11,-⟩;have z12:=Yab w11 (.cells #[.int .i64 0,.int .u64 0,.int .u64 0] 46);have g12:=World.grownBy_alloc w11 (.cells #[.int .i64 0,.int .u64 0,.int .u64 0] 46) none;obtain ⟨Z12,hZ12⟩:∃ Z,w11.alloc (.cells #[.int .i64 0,.int .u64 0,.int .u64 0] 46)=Z:=⟨_,rfl⟩;rw [hZ12] at z12 g12;have hH12:=hH11.later g12;have l12:=hH11.gr.size))
       | (refine Yae rfl 46 _ _ rfl _ 0 rfl rfl z12 (by exact Nat.le_refl _) (by exact Ya0) (by simp [Value.oneCell']) ?_;intro W13 p13 g13;rw [Yau _ _ (by rfl)] at p13;have hH13:=hH12.past g13 z12 l12 boxRs (by decide) (by decide);obtain ⟨m0,m1,m2⟩:=Yaf p13))
      go_ret
      refine ⟨?_,Yaa HG1.out hH13.gr⟩
      first|rfl|(show Ending.returned (.bool (!decide (k<8)))=_;rw [decide_eq_false (by omega)];rfl)
     ·clear HKW hkw
      obtain ⟨S9,ha⟩:=att_out (S:=Ycy S k) h8
      have hdo:∀ V,wr.grownBy V none→Calls Tryz.prog 13 #[.pointer (some ⟨P,0,none⟩),.int .i64 k,.agg #[.int .i64 15,.int .u64 0,.int .u64 0,.int .u64 0,.int .u64 0,.int .u64 0,.int .i64 0,.string ⟨#[]⟩]] V fun en W1=>en=.returned (.agg #[.int .i64 1,.int .u64 0,.int .u64 0])∧PlH w1 P _ (.agg cs2) K (Ycy S k) S9 W1∧Ybw w1 V W1:=fun V hV=>by
       have:=(hP9.later hV).code att_ok ha
       rw [att_lit] at this
       exact this
      have HDO:=Lib.hid hdo
      clear hdo ha hP9
      go_wp2_with (first
       | (refine Yad rfl 36 _ rfl _ 0 rfl p9 cs2 (fun j v hj=>by simpa using hj) _ Tryz.underlying36 rfl (by rw [Yai,t0]) ?_)
       | (go_at_call 12;go_must ((with_reducible refine hsm.mono ?_);rintro en w10 ⟨rfl,hg10⟩;have hc10:=HDO.out _ hg10))
       | (go_at_call 13;go_must ((with_reducible refine hc10.mono ?_);rintro en w11 ⟨rfl,hH11,-⟩;have z12:=Yab w11 (.cells #[.int .i64 0,.int .u64 0,.int .u64 0] 46);have g12:=World.grownBy_alloc w11 (.cells #[.int .i64 0,.int .u64 0,.int .u64 0] 46) none;obtain ⟨Z12,hZ12⟩:∃ Z,w11.alloc (.cells #[.int .i64 0,.int .u64 0,.int .u64 0] 46)=Z:=⟨_,rfl⟩;rw [hZ12] at z12 g12;have hH12:=hH11.later g12;have l12:=hH11.gr.size))
       | (refine Yae rfl 46 _ _ rfl _ 0 rfl rfl z12 (by exact Nat.le_refl _) (by exact Ya0) (by simp [Value.oneCell']) ?_;intro W13 p13 g13;rw [Yau _ _ (by rfl)] at p13;have hH13:=hH12.past g13 z12 l12 boxRs (by decide) (by decide);obtain ⟨m0,m1,m2⟩:=Yaf p13))
      go_ret
      refine ⟨?_,Yaa HG1.out hH13.gr⟩
      first|rfl|(show Ending.returned (.bool (!decide (k<8)))=_;rw [decide_eq_false (by omega)];rfl)
 ·go_enter Tryz.func6,Tryz.ntmps6
  go_wp2_with (first
   | (go_at_call 9;go_must ((with_reducible refine (Yc3 _).mono ?_);rintro en w1 ⟨rfl,hg1'⟩;have hg1:=Yaa HG0.out hg1';have hc1:=few14 (c:=c) (hp.later hg1) rfl hn;rw [hf] at hc1))
   | (go_at_call 10;go_must ((with_reducible refine hc1.mono ?_);rintro en w2 ⟨rfl,hw2⟩;subst w2)))
  go_ret
  exact ⟨rfl,hg1⟩
theorem walk {w:World} {la:Option Addr} {c:Nat} {l:List Yc4} (hn:l.length≤maxLen) (ho:∀ q∈l,Yda q) (hp:Yco w la l) (k:Int) (hk:(Lit.int .i64 k).wf=true) :
  Calls Tryz.prog 6 #[.slice la l.length c,.int .i64 k] w fun e w'=>e=.returned (.bool true)∧Below w.heap.size w w' :=
 (core hn ho hp (bounds_i64 hk)).mono fun e w' ⟨h1,h2⟩=>⟨h1,⟨h2.os,h2.tape,h2.output,h2.size,fun k hk=>h2.block k hk (by simp)⟩⟩
theorem laidOut:laidOutB Tryz.prog=true:=by kernel_rfl
/-! ### The row's step: the guide's frame -/
theorem own:ownKnob Tryz.prog.godebug=none:=by kernel_rfl
set_option maxRecDepth 100000 in
theorem lifted (os:Os) (started:os.Started) (H:Type) (enc:TypeId × Value→H) :
  ReturnsInHanded {} Tryz.checked os 6 .any (Rows.modelDiesSpec.pre6 enc Tryz.prog Tryz.f6 Rows.modelDiesRow.domain false) (Rows.modelDiesSpec.post enc Tryz.prog Tryz.f6 false true false false):=by
 refine returnsInHanded_of_change (C:=Tryz.checked) own started (by kernel_rfl) Tryz.func6
  (ChangeSpec.witness6 (enc:=enc) (C:=Tryz.checked) false ⟨#[],#[.slice none 0 0,.int .i64 0],[]⟩ 8 (by kernel_rfl) (by kernel_rfl) (by kernel_rfl) (by kernel_rfl)) ?_
 intro W base args ds gs before hval0 hW hcnd _
 have hval:∀ (j:Nat) t v,Tryz.f6.params[j]?=some t→args[j]?=some v→Value.okWide Tryz.prog W .any base t v:=hval0
 have hW':=hW
 obtain ⟨p,q,hA0,hV,rfl,hfz,hnd⟩:=hW
 have hA:DataW.TrodAll enc Tryz.prog W 0 (fun _=>true) true Tryz.f6.params.toList args.toList ds p:=hA0
 rw [Tryz.params6] at hA hval
 obtain ⟨v0,vs0,d0,ds0,p0,q0,hargs,rfl,rfl,h0,r0⟩:=trodAll_cons hA
 obtain ⟨v1,vs1,d1,ds1,p1,q1,rfl,rfl,rfl,h1,r1⟩:=trodAll_cons r0
 obtain ⟨rfl,rfl,rfl⟩:=trodAll_nil r1
 obtain rfl:args=#[v0,v1]:=by cases args;simp_all
 obtain ⟨rfl,rfl⟩:=trodVars_none hV
 have lt0:∀ x∈p0,x.block<W.heap.size:=by obtain ⟨m,hm⟩:=h0;exact DataW.trod_lt m _ _ _ hm
 obtain ⟨la0,c0,l0,rfl,hc0,hn0,ho0,hp0⟩:=Yd4 (hval 0 22 v0 rfl rfl) h0
 obtain ⟨a1,rfl,rfl,rfl,w1⟩:=open_int Tryz.underlying3 (hval 1 3 v1 rfl rfl) h1
 clear hA0 hval0
 refine (walk hn0 ho0 hp0 a1 w1).mono fun e W' ⟨he,bel⟩=>?_
 subst he
 exact ⟨_,rfl,_,_,_,[],_,[],hW',trodAll_mk1 (shut_bool Tryz.underlying4 _),(trodAll_cons_mk (Below.trod laidOut (by kernel_rfl) (of_decide_eq_true (by kernel_rfl)) h0 bel lt0) (trodAll_cons_mk (shut_int Tryz.underlying3 w1) trodAll_mk0)),rfl,bel.frame _,fun h=>by cases h⟩

theorem over:Rows.modelDiesRow.holds Tryz.pinned (OpenSpec.ofChange Rows.modelDiesSpec) :=
 OpenClaim.holds_of_wide 6 Tryz.f6 rfl rfl rfl rfl rfl rfl rfl ⟨rfl,rfl,rfl,rfl,rfl⟩ rfl rfl rfl rfl rfl (by kernel_rfl) Tryz.func6 (by kernel_rfl)
  (of_decide_eq_true (by kernel_rfl)) (by unfold Func.isWrapper;first|(rw [if_pos (by decide +kernel)];kernel_rfl)|(rw [if_neg (by decide +kernel)];exact ⟨rfl,rfl⟩))
  (fun os started H enc _=>lifted os started H enc)

theorem proved:Rows.ModelDiesSaid :=
 over
#print axioms proved


end Go.Proofs.YtfhiljglfhekdaaGreat.modelDies
