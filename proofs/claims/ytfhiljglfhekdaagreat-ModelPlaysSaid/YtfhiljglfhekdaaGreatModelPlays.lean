/-
  Whatever clients do, and whoever dies: what each call tells, all blocks, all names, and who is live, are the document's. The statement ModelPlays; no condition.
-/
import Derived.Test.YtfhiljglfhekdaaGreatLEnb
import Derived.Test.YtfhiljglfhekdaaGreatKogH
import Derived.Test.YtfhiljglfhekdaaGreatLZza
import Derived.Test.YtfhiljglfhekdaaGreatRows
import Derived.Lib.SmallJoins
import Derived.ProofKit
import Derived.OpenShut
import Derived.Carry
import Derived.Deep.RegionHeld3
import Derived.ChangeOld
namespace Go.Proofs.YtfhiljglfhekdaaGreat.modelPlays
open Go.ChangeShapes Go.WideShapes Go.ChangeAt Go.RowKit
open Go.ChangeMaps (open_string shut_string)
set_option linter.unusedVariables false
set_option linter.unusedSimpArgs false
set_option maxRecDepth 100000

set_option maxHeartbeats 8000000 in
theorem core {w:World} {la:Option Addr} {c:Nat} {l:List Yc4} (hn:l.length≤maxLen) (ho:∀ q∈l,Yda q) (hp:Yco w la l):Calls Tryz.prog 3 #[.slice la l.length c] w fun e w'=>e=.returned (.bool true)∧w.grownBy w' none:=by
 have HG0:Hid (w.grownBy w none):=Lib.hid (Yag _ _)
 rcases Bool.eq_false_or_eq_true (fewL l) with hf|hf
 ·have h25:=(fewL_is hf).1
  go_enter Tryz.func3,Tryz.ntmps3
  go_wp2_with (first
   | (go_at_call 9;go_must ((with_reducible refine (Yc3 _).mono ?_);rintro en w1 ⟨rfl,hg1'⟩;have hg1:=Yaa HG0.out hg1';have hc1:=few14 (c:=c) (hp.later hg1) rfl hn;rw [hf] at hc1))
   | (go_at_call 10;go_must ((with_reducible refine hc1.mono ?_);rintro en w2 ⟨rfl,hw2⟩;subst w2;have hc2:=played14 (c:=c) (hp.later hg1) ho rfl h25))
   | (go_at_call 11;go_must ((with_reducible refine hc2.mono ?_);rintro en w3 ⟨P,base,K,S,cs,rfl,s0,s1,hK,hPl⟩;have z7:=Yab w3 (.cells sZ 36);have g7:=World.grownBy_alloc w3 (.cells sZ 36) none;obtain ⟨Z7,hZ7⟩:∃ Z,w3.alloc (.cells sZ 36)=Z:=⟨_,rfl⟩;rw [hZ7] at z7 g7;unfold sZ at hZ7;have hPz:=hPl.later g7;have l7:=hPl.gr.size))
   | (refine Yae rfl 36 _ _ rfl _ 0 rfl rfl z7 (by rw [s0];exact Nat.le_refl _) (by rw [Yai,s0]) s1 ?_;intro W4 p4 g4;rw [Yau _ _ s0] at p4;have hP4:=hPz.past g4 z7 l7 Ybt (by decide) (by decide);have G4:=Yaa hg1 hP4.gr)
   | (refine Ycd (by kernel_rfl) 36 _ rfl _ 0 rfl p4 cs (fun j v hj=>by simpa using hj) _ Tryz.underlying36 rfl (by rw [Yai,s0]) ?_)
   | (go_at_call 12;go_must ((with_reducible refine (same14 hP4 (by omega)).mono ?_);rintro en w5 ⟨rfl,hg5⟩)))
  go_ret
  exact ⟨rfl,Yaa G4 hg5⟩
 ·go_enter Tryz.func3,Tryz.ntmps3
  go_wp2_with (first
   | (go_at_call 9;go_must ((with_reducible refine (Yc3 _).mono ?_);rintro en w1 ⟨rfl,hg1'⟩;have hg1:=Yaa HG0.out hg1';have hc1:=few14 (c:=c) (hp.later hg1) rfl hn;rw [hf] at hc1))
   | (go_at_call 10;go_must ((with_reducible refine hc1.mono ?_);rintro en w2 ⟨rfl,hw2⟩;subst w2)))
  go_ret
  exact ⟨rfl,hg1⟩
theorem walk {w:World} {la:Option Addr} {c:Nat} {l:List Yc4} (hn:l.length≤maxLen) (ho:∀ q∈l,Yda q) (hp:Yco w la l) :
  Calls Tryz.prog 3 #[.slice la l.length c] w fun e w'=>e=.returned (.bool true)∧Below w.heap.size w w' :=
 (core hn ho hp).mono fun e w' ⟨h1,h2⟩=>⟨h1,⟨h2.os,h2.tape,h2.output,h2.size,fun k hk=>h2.block k hk (by simp)⟩⟩
theorem laidOut:laidOutB Tryz.prog=true:=by kernel_rfl
/-! ### The row's step: the guide's frame -/
theorem own:ownKnob Tryz.prog.godebug=none:=by kernel_rfl
set_option maxRecDepth 100000 in
theorem lifted (os:Os) (started:os.Started) (H:Type) (enc:TypeId × Value→H) :
  ReturnsInHanded {} Tryz.checked os 3 .any (Rows.modelPlaysSpec.pre6 enc Tryz.prog Tryz.f3 Rows.modelPlaysRow.domain false) (Rows.modelPlaysSpec.post enc Tryz.prog Tryz.f3 false true false false):=by
 refine returnsInHanded_of_change (C:=Tryz.checked) own started (by kernel_rfl) Tryz.func3
  (ChangeSpec.witness6 (enc:=enc) (C:=Tryz.checked) false ⟨#[],#[.slice none 0 0],[]⟩ 8 (by kernel_rfl) (by kernel_rfl) (by kernel_rfl) (by kernel_rfl)) ?_
 intro W base args ds gs before hval0 hW hcnd _
 have hval:∀ (j:Nat) t v,Tryz.f3.params[j]?=some t→args[j]?=some v→Value.okWide Tryz.prog W .any base t v:=hval0
 have hW':=hW
 obtain ⟨p,q,hA0,hV,rfl,hfz,hnd⟩:=hW
 have hA:DataW.TrodAll enc Tryz.prog W 0 (fun _=>true) true Tryz.f3.params.toList args.toList ds p:=hA0
 rw [Tryz.params3] at hA hval
 obtain ⟨v0,vs0,d0,ds0,p0,q0,hargs,rfl,rfl,h0,r0⟩:=trodAll_cons hA
 obtain ⟨rfl,rfl,rfl⟩:=trodAll_nil r0
 obtain rfl:args=#[v0]:=by cases args;simp_all
 obtain ⟨rfl,rfl⟩:=trodVars_none hV
 have lt0:∀ x∈p0,x.block<W.heap.size:=by obtain ⟨m,hm⟩:=h0;exact DataW.trod_lt m _ _ _ hm
 obtain ⟨la0,c0,l0,rfl,hc0,hn0,ho0,hp0⟩:=Yd4 (hval 0 22 v0 rfl rfl) h0
 clear hA0 hval0
 refine (walk hn0 ho0 hp0).mono fun e W' ⟨he,bel⟩=>?_
 subst he
 exact ⟨_,rfl,_,_,_,[],_,[],hW',trodAll_mk1 (shut_bool Tryz.underlying4 _),(trodAll_cons_mk (Below.trod laidOut (by kernel_rfl) (of_decide_eq_true (by kernel_rfl)) h0 bel lt0) trodAll_mk0),rfl,bel.frame _,fun h=>by cases h⟩

theorem over:Rows.modelPlaysRow.holds Tryz.pinned (OpenSpec.ofChange Rows.modelPlaysSpec) :=
 OpenClaim.holds_of_wide 3 Tryz.f3 rfl rfl rfl rfl rfl rfl rfl ⟨rfl,rfl,rfl,rfl,rfl⟩ rfl rfl rfl rfl rfl (by kernel_rfl) Tryz.func3 (by kernel_rfl)
  (of_decide_eq_true (by kernel_rfl)) (by unfold Func.isWrapper;first|(rw [if_pos (by decide +kernel)];kernel_rfl)|(rw [if_neg (by decide +kernel)];exact ⟨rfl,rfl⟩))
  (fun os started H enc _=>lifted os started H enc)

theorem proved:Rows.ModelPlaysSaid :=
 over
#print axioms proved


end Go.Proofs.YtfhiljglfhekdaaGreat.modelPlays
