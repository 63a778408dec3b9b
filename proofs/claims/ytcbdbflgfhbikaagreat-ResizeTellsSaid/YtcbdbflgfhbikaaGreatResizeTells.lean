/-
  Any block resized to any number of bytes, whatever was done: what is told, all blocks, the tree, and the lists, are the document's. The statement ResizeTells; no condition.
-/
import Derived.Test.YtcbdbflgfhbikaaGreatLRse
import Derived.Test.YtcbdbflgfhbikaaGreatResBb
import Derived.Test.YtcbdbflgfhbikaaGreatResR
import Derived.BigQuiet
import Derived.Deep.RegionHeld3
namespace Go.Proofs.YtcbdbflgfhbikaaGreat.resizeTells
open Go.ChangeShapes Go.WideShapes Go.ChangeAt Go.RowKit
set_option linter.unusedVariables false
set_option linter.unusedSimpArgs false
set_option maxRecDepth 100000

set_option maxHeartbeats 8000000 in
theorem core {w:World} {la:Option Addr} {n c:Nat} {X O A N:Nat→Nat} (hp:DoneAt w la n X O A N) (hn:n≤maxLen) {q k:Nat} (hq:q<18446744073709551616) (hk:k<18446744073709551616) :
  Calls Tryz.prog 3 #[.slice la n c,.int .u64 q,.int .u64 k] w fun e w'=>e=.returned (.bool true)∧w.grownBy w' none:=by
 obtain ⟨E,bs,L,hE,hpl⟩:=plays12 (c:=c) hp hn
 have hcc:=fun (V W:World) (T:Nat) (R:Option Nat) (f:Nat→Nat) (h:HF V W T R (fmt48 4480) E bs L f)=>rz_hf h q k hq hk
 have hcr:=fun (V W V':World) (T:Nat) (R R':Option Nat) (v:Value) (h:HW V W T R (fmt48 4480) E bs L) (hR:∀ g,R'=some g→g<V'.heap.size) (hv:HvK V' R' V.heap.size v E bs L) (hb:V.heap.size≤V'.heap.size)=>rz_fine h.snd.fine (by decide) hR hv hb q k hk
 obtain ⟨e1,he1⟩:∃ x,rzE bs q k=x:=⟨_,rfl⟩
 obtain ⟨P,hP⟩:∃ x,rzP bs q k=x:=⟨_,rfl⟩
 obtain ⟨bs1,hbs1⟩:∃ x,rzB bs q k=x:=⟨_,rfl⟩
 obtain ⟨L1,hL1⟩:∃ x,rzL bs L q k=x:=⟨_,rfl⟩
 rw [he1,hP,hbs1,hL1] at hcc hcr
 have ee1:((e1:Int) == (e1:Int))=true:=by simp
 have eP:((P:Int) == (P:Int))=true:=by simp
 clear hE hbs1 hL1 he1 hP
 go_enter Tryz.func3,Tryz.ntmps3
 go_wp2_with (first
  | (go_at_call 8;((with_reducible refine (awake12 _).mono ?_);rintro e w1 ⟨rfl,hg1⟩))
  | (go_at_call 9;((with_reducible refine (hpl _ hg1).mono ?_);rintro e w2 ⟨T,R,l1,n1,c1,va,ln,vc,rfl,H2,V2,hn1⟩;replace hn1:=Lib.hid hn1;have ga2:=World.grownBy_alloc w2 (.cells (hC E l1 n1 c1 va ln vc) 30) none;have HB2:=Lib.hid (heap_alloc_new' w2 (.cells (hC E l1 n1 c1 va ln vc) 30));have H3:=H2.later ga2;have V3:=V2.later ga2;obtain ⟨⟨d0,d1,d2,d3,d4,d5,d6,d7,d8,d9⟩,_⟩:=ten_cells HB2.out;obtain ⟨f,F3⟩:=H3.see;have hct:=hcc _ _ _ _ _ F3))
  | (go_at_call 10;((with_reducible refine hct.mono ?_);rintro e5 w5 ⟨rfl,R5,f5,F5,_,K5⟩;have B5:=K5.far HB2.out (by decide) (by decide);obtain ⟨⟨d0,d1,d2,d3,d4,d5,d6,d7,d8,d9⟩,_⟩:=ten_cells B5;clear B5;have hrf:=hcr _ _ w5 _ _ R5 _ H3 (fun g e=>F5.heap.newR e) (V3.step K5) F5.heap.since.size))
  | (go_at_call 11;((with_reducible refine hrf.mono ?_);rintro e6 w6 ⟨v6,rfl,V6,hg6⟩;obtain ⟨l6,n6,c6,vb,lb,vd,hv6,_⟩:=V6.lie;subst hv6;simp only [heapV] at V6 ⊢;have ga6:=World.grownBy_alloc w6 (.cells (hC E l6 n6 c6 vb lb vd) 30) none;have HB6:=Lib.hid (heap_alloc_new' w6 (.cells (hC E l6 n6 c6 vb lb vd) 30));have H7:=F5.heap.later (grown_trans hg6 ga6);obtain ⟨⟨z0,z1,z2,z3,z4,z5,z6,z7,z8,z9⟩,_⟩:=ten_cells HB6.out;have hso:=sound12_any H7 (V6.later ga6).is))
  | (go_at_call 12;((with_reducible refine hso.mono ?_);rintro e8 w8 ⟨rfl,hg8⟩)))
 go_ret
 exact ⟨rfl,grown_trans hg1 (grown_trans H7.since hg8)⟩
theorem walk {w:World} {la:Option Addr} {n c:Nat} {X O A N:Nat→Nat} (hc:n≤c) (hn:n≤maxLen) (hp:DoneAt w la n X O A N) (q:Int) (wq:(Lit.int .u64 q).wf=true) (k:Int) (wk:(Lit.int .u64 k).wf=true) :
  Calls Tryz.prog 3 #[.slice la n c,.int .u64 q,.int .u64 k] w fun e w'=>e=.returned (.bool true)∧Below w.heap.size w w':=by
 have bq:=bounds_u64 wq
 obtain ⟨q,rfl⟩:=Int.eq_ofNat_of_zero_le bq.1
 have bk:=bounds_u64 wk
 obtain ⟨k,rfl⟩:=Int.eq_ofNat_of_zero_le bk.1
 exact (core hp hn (by omega) (by omega)).mono fun e w' ⟨h1,h2⟩=>⟨h1,grown_below h2⟩
theorem laidOut:laidOutB Tryz.prog=true:=by kernel_rfl
/-! ### The row's step: the guide's frame -/
theorem own:ownKnob Tryz.prog.godebug=none:=by kernel_rfl
set_option maxRecDepth 100000 in
theorem lifted (os:Os) (started:os.Started) (H:Type) (enc:TypeId × Value→H) :
  ReturnsInHanded {} Tryz.checked os 3 .any (Rows.resizeTellsSpec.pre6 enc Tryz.prog Tryz.f3 Rows.resizeTellsRow.domain false) (Rows.resizeTellsSpec.post enc Tryz.prog Tryz.f3 false true false false):=by
 refine returnsInHanded_of_change (C:=Tryz.checked) own started (by kernel_rfl) Tryz.func3
  (ChangeSpec.witness6 (enc:=enc) (C:=Tryz.checked) false ⟨#[],#[.slice none 0 0,.int .u64 0,.int .u64 0],[]⟩ 8 (by kernel_rfl) (by kernel_rfl) (by kernel_rfl) (by kernel_rfl)) ?_
 intro W base args ds gs before hval0 hW hcnd _
 have hval:∀ (j:Nat) t v,Tryz.f3.params[j]?=some t→args[j]?=some v→Value.okWide Tryz.prog W .any base t v:=hval0
 have hW':=hW
 obtain ⟨p,q,hA0,hV,rfl,hfz,hnd⟩:=hW
 have hA:DataW.TrodAll enc Tryz.prog W 0 (fun _=>true) true Tryz.f3.params.toList args.toList ds p:=hA0
 rw [Tryz.params3] at hA hval
 obtain ⟨v0,vs0,d0,ds0,p0,q0,hargs,rfl,rfl,h0,r0⟩:=trodAll_cons hA
 obtain ⟨v1,vs1,d1,ds1,p1,q1,rfl,rfl,rfl,h1,r1⟩:=trodAll_cons r0
 obtain ⟨v2,vs2,d2,ds2,p2,q2,rfl,rfl,rfl,h2,r2⟩:=trodAll_cons r1
 obtain ⟨rfl,rfl,rfl⟩:=trodAll_nil r2
 obtain rfl:args=#[v0,v1,v2]:=by cases args;simp_all
 obtain ⟨rfl,rfl⟩:=trodVars_none hV
 have lt0:∀ x∈p0,x.block<W.heap.size:=by obtain ⟨m,hm⟩:=h0;exact DataW.trod_lt m _ _ _ hm
 obtain ⟨la0,n0,c0,X0,O0,A0,N0,rfl,hc0,hn0,hp0⟩:=open_done (hval 0 22 v0 rfl rfl) h0
 obtain ⟨a1,rfl,rfl,rfl,w1⟩:=open_int Tryz.underlying23 (hval 1 23 v1 rfl rfl) h1
 obtain ⟨a2,rfl,rfl,rfl,w2⟩:=open_int Tryz.underlying23 (hval 2 23 v2 rfl rfl) h2
 clear hA0 hval0
 refine (walk hc0 hn0 hp0 a1 w1 a2 w2).mono fun e W' ⟨he,bel⟩=>?_
 subst he
 exact ⟨_,rfl,_,_,_,[],_,[],hW',trodAll_mk1 (shut_bool Tryz.underlying4 _),(trodAll_cons_mk (Below.trod laidOut (by kernel_rfl) (of_decide_eq_true (by kernel_rfl)) h0 bel lt0) (trodAll_cons_mk (shut_int Tryz.underlying23 w1) (trodAll_cons_mk (shut_int Tryz.underlying23 w2) trodAll_mk0))),rfl,bel.frame _,fun h=>by cases h⟩

theorem over:Rows.resizeTellsRow.holds Tryz.pinned (OpenSpec.ofChange Rows.resizeTellsSpec) :=
 OpenClaim.holds_of_wide 3 Tryz.f3 rfl rfl rfl rfl rfl rfl rfl ⟨rfl,rfl,rfl,rfl,rfl⟩ rfl rfl rfl rfl rfl (by kernel_rfl) Tryz.func3 (by kernel_rfl)
  (of_decide_eq_true (by kernel_rfl)) (by unfold Func.isWrapper;first|(rw [if_pos (by decide +kernel)];kernel_rfl)|(rw [if_neg (by decide +kernel)];exact ⟨rfl,rfl⟩))
  (fun os started H enc _=>lifted os started H enc)

theorem proved:Rows.ResizeTellsSaid :=
 over
#print axioms proved


end Go.Proofs.YtcbdbflgfhbikaaGreat.resizeTells
