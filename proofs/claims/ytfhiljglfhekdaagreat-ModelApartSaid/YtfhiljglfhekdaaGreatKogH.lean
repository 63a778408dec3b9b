/-
  Texts of one layer, one behind the other: memory, contracts of the functions, and what follows of them.
  Conditions: as each theorem says.
-/
import Derived.Test.YtfhiljglfhekdaaGreatLZza
import Derived.Test.YtfhiljglfhekdaaGreatKogG
set_option linter.unusedVariables false
set_option linter.unusedSimpArgs false
set_option maxRecDepth 100000
namespace Go.Proofs.YtfhiljglfhekdaaGreat
open Go.RowKit
section
theorem Ycd {w:World} {t:TypeId} {ops:Array Oper} {rest:List Oper} {op:Oper} {a:Act} {Q:Exit→Act→World→Prop} (hw:Region.wanted op (yielded ops a.tmps)=true) (ty:TypeId) (x:Operand) (ho:op.op=.load ty x)
  (b o:Nat) (hx:a.eval x=.pointer (some ⟨b,o,none⟩)) {cs:Array Value} (hb:w.heap[b]?=some (.cells cs t (0,0))) (ps:Array Value) (hps:∀ j v,ps[j]?=some v→cs[o+j]?=some v) (d:TypeDesc)
  (hu:Tryz.prog.underlying ty=some d) (hd:d.isRow=true) (hi:(Tryz.prog.info? ty).map (·.size)=some ps.size)
  (h:wpList Tryz.prog ops Q rest (a.put op.dst (.agg ps)) w):wpList Tryz.prog ops Q (op::rest) a w:=by
 have hc:w.rangeAt b o ps.toList:=fun j v hj=>Yas hb (hps j v (by simpa using hj))
 refine wpList_step fun K hK=>?_
 rw [if_pos hw]
 refine wp_load_mid ty x ho b o hx ps.toList d hc hu hd (by simpa using hi) ?_
 simpa using hK _ _ h
structure Cd (w0:World) (P all K:Nat) (S:MS) (W:World):Prop where
 ex:∃ F l,Md W F P all l S.nm S.lv∧Rep l S∧HM K S∧∀ g,F g→w0.heap.size≤g∧OkT W g
 gr:w0.grownBy W none
section
variable {w0 W W1:World} {P all K:Nat} {S S':MS} {c:Int} {x:OpM} {e p q:Nat}
theorem Cd.later (h:Cd w0 P all K S W) (hg:W.grownBy W1 none):Cd w0 P all K S W1:=by
 obtain ⟨F,l,h1,h2,h3,h4⟩:=h.ex
 exact ⟨⟨F,l,h1.later hg,h2,h3,fun g hF=>⟨(h4 g hF).1,(h4 g hF).2.later hg⟩⟩,Yaa h.gr hg⟩
theorem Cd.step (h:Cd w0 P all K S W) (hx:OpOk x) (hall:all≤4800) (ha:Ybz all S c x S' e p q) :
  Calls Tryz.prog 13 #[.pointer (some ⟨P,0,none⟩),.int .i64 c,.agg (opC x)] W fun en W1=>en=.returned (.agg #[.int .i64 (e:Nat),.int .u64 (p:Nat),.int .u64 (q:Nat)])∧Cd w0 P all (K+1) S' W1∧Ybw w0 W W1:=by
 obtain ⟨F,l,h1,h2,h3,h4⟩:=h.ex
 refine (mstep h1 h3 h2 hx hall ha).mono ?_
 rintro en W1 ⟨rfl,l',hr,hR⟩
 have hst:Ybw w0 W W1:=⟨F,hR.2,fun g hg=>h4 g hg⟩
 exact ⟨rfl,⟨⟨_,l',hR.1.trim,hr,ha.is h3 hx hall,fun g hg=>⟨by
  rcases hg.1 with k|k
  ·exact (h4 g k).1
  ·exact Nat.le_trans h.gr.size k.1,hg.2⟩⟩,hst.grown h.gr⟩,hst⟩
theorem Cd.blocks (h:Cd w0 P all K S W) (hlo:3776<S.E) :
  Calls Tryz.prog 15 #[.pointer (some ⟨P,0,none⟩)] W fun e w'=>∃ g c,e=.returned (.slice (some ⟨g,0,none⟩) S.bs.length c)∧BkAt w' W.heap.size W.heap.size 53 (some ⟨g,0,none⟩) S∧W.grownBy w' none:=by
 obtain ⟨F,l,h1,h2,h3,h4⟩:=h.ex
 exact md_blocks h1 h2 h3 hlo
theorem Cd.past {b:Nat} {cs:Array Value} {t:TypeId} (h:Cd w0 P all K S W) (hg:W.grownBy W1 (some b)) (hb:W.heap[b]?=some (.cells cs t (0,0))) (hw:w0.heap.size≤b) (h1:t≠53) (h2:t≠26) (h3:t≠91):Cd w0 P all K S W1:=by
 obtain ⟨F,l,k1,k2,k3,k4⟩:=h.ex
 refine ⟨⟨F,l,k1.other hb h1 h2 h3 hg,k2,k3,fun g hF=>⟨(k4 g hF).1,?_⟩⟩,Yaj h.gr hg (fun i hi=>.inl (by injection hi with hi;omega))⟩
 have hok:=(k4 g hF).2
 have hne:g≠b:=fun e=>by subst e;exact hok.not hb h1 h2 h3
 rcases hok with ⟨es,clock,hm⟩|⟨c,t',fr,hm,hq⟩
 ·exact .inl ⟨es,clock,(hg.block _ (lt_of_block hm) (fun e=>hne (by injection e))).trans hm⟩
 ·exact .inr ⟨c,t',fr,(hg.block _ (lt_of_block hm) (fun e=>hne (by injection e))).trans hm,hq⟩
theorem awake_new (w0:World):Calls Tryz.prog 23 #[.int .u64 4000,.int .u64 4000] w0 fun e w'=>e=.returned (.pointer (some ⟨w0.heap.size+2,0,none⟩))∧Cd w0 (w0.heap.size+2) 4000 0 (newM 4000) w'∧w0.grownBy w' none:=by
 refine (mnew_ok (size:=4000) (all:=4000) ⟨by decide,by decide,by decide,by decide,by decide⟩).mono ?_
 rintro e w' ⟨rfl,md,hg⟩
 exact ⟨rfl,⟨⟨_,_,md.trim,rep_new 4000,hm_new (by decide) (by decide) (by decide),fun g hq=>⟨hq.1.1,hq.2⟩⟩,hg⟩,hg⟩
theorem Pl.blocks {base:Nat} {v:Value} (h:Pl w0 P base v K S W) :
  Calls Tryz.prog 15 #[.pointer (some ⟨P,0,none⟩)] W fun e w'=>∃ g c,e=.returned (.slice (some ⟨g,0,none⟩) S.bs.length c)∧BkAt w' W.heap.size W.heap.size 53 (some ⟨g,0,none⟩) S∧W.grownBy w' none:=by
 obtain ⟨F,h1,_⟩:=h.ex
 exact h1.blocks h.lo
theorem Pl.cd {base:Nat} {v:Value} (h:Pl w0 P base v K S W):Cd w0 P 4800 K S W:=by
 obtain ⟨F,h1,h2⟩:=h.ex
 obtain ⟨l,hs,hr⟩:=h1.ex
 exact ⟨⟨F,l,hs.md,hr,h1.hm,fun g hF=>⟨h2 g hF,hs.ok g hF⟩⟩,h.gr⟩
theorem kill_at {k:Int} {i:Nat} (hM:HM K S) (hi:i<(Ycy S k).bs.length):((Ycy S k).bs.getD i default).u=true→(0≤((Ycy S k).bs.getD i default).o∧((Ycy S k).bs.getD i default).o≤8)∧(0≤k→((Ycy S k).bs.getD i default).o≠k+1):=fun hu=>by
 have hm:(Ycy S k).bs.getD i default∈(Ycy S k).bs:=by rw [List.getD_eq_getElem?_getD,List.getElem?_eq_getElem hi];exact List.getElem_mem hi
 exact ⟨((killC_is (c:=k) hM).hs.q.is _ hm).us hu |>.2,fun h0=>killC_none hM h0 _ (Yb3.2 ⟨hm,hu⟩)⟩
end
def alcM:OpM:=⟨1,8,0,0,0,0,0,⟨#[]⟩⟩
theorem alc_ok:OpOk alcM:=⟨by decide,by decide,by decide,by decide,by decide,by decide⟩
theorem alc_lit:opC alcM=#[.int .i64 1,.int .u64 8,.int .u64 0,.int .u64 0,.int .u64 0,.int .u64 0,.int .i64 0,.string ⟨#[]⟩]:=by simp [opC,alcM]
def awS1:MS:={ newM 4000 with lv:=oth (newM 4000).lv 1 true }
def awS2:MS:=mTk awS1 2 8 16
theorem aw_1:Ybz 4000 (newM 4000) 1 alcM (newM 4000) 10 0 0:=.client (k:=1) rfl (by decide) (by decide) (by decide) rfl
theorem aw_2:Ybz 4000 (newM 4000) 1 attM awS1 0 0 0:=.attach (k:=1) rfl (by decide) rfl rfl
theorem aw_fit:Yax awS1.bs 8 16=0:=by decide +kernel
theorem aw_at:mtP awS1.bs 8 16=3808:=by decide +kernel
theorem aw_3:Ybz 4000 awS1 1 alcM awS2 0 3808 0:=by
 have h:Ybz 4000 awS1 1 alcM awS2 (Yax awS1.bs 8 16) (mtP awS1.bs 8 16) 0:=.act (k:=1) rfl (by decide) (by decide) (by decide) rfl (.alloc rfl)
 rw [aw_fit,aw_at] at h
 exact h
theorem aw_len:awS2.bs.length=2:=by unfold awS2;rw [Yek aw_fit];decide +kernel
theorem aw_own:(awS2.bs.getD 0 default).o=2:=by unfold awS2;rw [Yek aw_fit];decide +kernel
theorem aw_wd:(wdL awS2 0).length=1:=by unfold awS2;rw [Yek aw_fit];decide +kernel
theorem aw_end:3776<awS2.E:=by unfold awS2;rw [Yek aw_fit];decide +kernel
set_option maxHeartbeats 8000000 in
theorem Yc3 (w:World):Calls Tryz.prog 9 #[] w fun e w'=>e=.returned (.bool true)∧w.grownBy w' none:=by
 have H1:Hid (∀ {P W},Cd w P 4000 0 (newM 4000) W→Calls Tryz.prog 13 #[.pointer (some ⟨P,0,none⟩),.int .i64 1,.agg #[.int .i64 1,.int .u64 8,.int .u64 0,.int .u64 0,.int .u64 0,.int .u64 0,.int .i64 0,.string ⟨#[]⟩]] W fun en W1=>en=.returned (.agg #[.int .i64 10,.int .u64 0,.int .u64 0])∧Cd w P 4000 1 (newM 4000) W1∧Ybw w W W1):=Lib.hid fun h=>by
  have:=h.step alc_ok (by decide) aw_1
  rw [alc_lit] at this
  exact this
 have H2:Hid (∀ {P W},Cd w P 4000 1 (newM 4000) W→Calls Tryz.prog 13 #[.pointer (some ⟨P,0,none⟩),.int .i64 1,.agg #[.int .i64 15,.int .u64 0,.int .u64 0,.int .u64 0,.int .u64 0,.int .u64 0,.int .i64 0,.string ⟨#[]⟩]] W fun en W1=>en=.returned (.agg #[.int .i64 0,.int .u64 0,.int .u64 0])∧Cd w P 4000 2 awS1 W1∧Ybw w W W1):=Lib.hid fun h=>by
  have:=h.step att_ok (by decide) aw_2
  rw [att_lit] at this
  exact this
 have H3:Hid (∀ {P W},Cd w P 4000 2 awS1 W→Calls Tryz.prog 13 #[.pointer (some ⟨P,0,none⟩),.int .i64 1,.agg #[.int .i64 1,.int .u64 8,.int .u64 0,.int .u64 0,.int .u64 0,.int .u64 0,.int .i64 0,.string ⟨#[]⟩]] W fun en W1=>en=.returned (.agg #[.int .i64 0,.int .u64 3808,.int .u64 0])∧Cd w P 4000 3 awS2 W1∧Ybw w W W1):=Lib.hid fun h=>by
  have:=h.step alc_ok (by decide) aw_3
  rw [alc_lit] at this
  exact this
 have H4:Hid (∀ {P W},Cd w P 4000 3 awS2 W→Calls Tryz.prog 15 #[.pointer (some ⟨P,0,none⟩)] W fun e w'=>∃ g pa pc c,e=.returned (.slice (some ⟨g,0,none⟩) 2 c)∧w'.cell? ⟨g,3,none⟩=some (.int .i64 2)∧w'.cell? ⟨g,5,none⟩=some (.slice pa 1 pc)∧W.grownBy w' none):=Lib.hid fun h=>by
  refine (h.blocks aw_end).mono ?_
  rintro e w' ⟨g,c,rfl,hB,hg⟩
  obtain ⟨g',pa,pc,ea,-,hat⟩:=hB.at_ (k:=0) (by rw [aw_len];decide)
  injection ea with ea
  injection ea with ea _ _
  subst ea
  obtain ⟨⟨-,-,-,y3,-,y5⟩,-⟩:=hat w' (Yag _ _)
  rw [aw_own] at y3
  rw [aw_wd] at y5
  rw [aw_len]
  exact ⟨g,pa,pc,c,rfl,by simpa using y3,by simpa using y5,hg⟩
 go_enter Tryz.func9,Tryz.ntmps9
 go_wp2_with (first
  | (go_at_call 23;go_must ((with_reducible refine (awake_new _).mono ?_);rintro en w1 ⟨rfl,hC,hg1⟩;have hc1:=H1.out hC))
  | (go_at_call 13;(with_reducible refine hc1.mono ?_);rintro en v1 ⟨rfl,hC1,hs1⟩;have ga:=World.grownBy_alloc v1 (.cells #[.int .i64 0,.int .u64 0,.int .u64 0] 46) none;have z1:=Yab v1 (.cells #[.int .i64 0,.int .u64 0,.int .u64 0] 46);obtain ⟨Z1,hZ1⟩:∃ Z,v1.alloc (.cells #[.int .i64 0,.int .u64 0,.int .u64 0] 46)=Z:=⟨_,rfl⟩;rw [hZ1] at ga z1;have hD1:=hC1.later ga;have l1:=hC1.gr.size)
  | (refine Yae rfl 46 _ _ rfl _ 0 rfl rfl z1 (by exact Nat.le_refl _) (by exact Ya0) (by simp [Value.oneCell']) ?_;intro W1 b1 g1;rw [Yau _ _ (by rfl)] at b1;have hE1:=hD1.past g1 z1 l1 (by decide) (by decide) (by decide);have b10:=b1;have hc2:=H2.out hE1)
  | (go_at_call 13;(with_reducible refine hc2.mono ?_);rintro en v2 ⟨rfl,hC2,hs2⟩;have ga:=World.grownBy_alloc v2 (.cells #[.int .i64 0,.int .u64 0,.int .u64 0] 46) none;have z2:=Yab v2 (.cells #[.int .i64 0,.int .u64 0,.int .u64 0] 46);obtain ⟨Z2,hZ2⟩:∃ Z,v2.alloc (.cells #[.int .i64 0,.int .u64 0,.int .u64 0] 46)=Z:=⟨_,rfl⟩;rw [hZ2] at ga z2;have hD2:=hC2.later ga;have l2:=hC2.gr.size;replace b1:=Yan (hs2.box b1 (by decide) (by decide) (by decide)) ga;have n12:v1.heap.size≠v2.heap.size:=(by have:=lt_of_block (hs2.box b10 (by decide) (by decide) (by decide));omega))
  | (refine Yae rfl 46 _ _ rfl _ 0 rfl rfl z2 (by exact Nat.le_refl _) (by exact Ya0) (by simp [Value.oneCell']) ?_;intro W2 b2 g2;rw [Yau _ _ (by rfl)] at b2;have hE2:=hD2.past g2 z2 l2 (by decide) (by decide) (by decide);replace b1:=Ya3 b1 g2 n12;replace b10:=b1;have b20:=b2;have hc3:=H3.out hE2)
  | (go_at_call 13;(with_reducible refine hc3.mono ?_);rintro en v3 ⟨rfl,hC3,hs3⟩;have ga:=World.grownBy_alloc v3 (.cells #[.int .i64 0,.int .u64 0,.int .u64 0] 46) none;have z3:=Yab v3 (.cells #[.int .i64 0,.int .u64 0,.int .u64 0] 46);obtain ⟨Z3,hZ3⟩:∃ Z,v3.alloc (.cells #[.int .i64 0,.int .u64 0,.int .u64 0] 46)=Z:=⟨_,rfl⟩;rw [hZ3] at ga z3;have hD3:=hC3.later ga;have l3:=hC3.gr.size;replace b1:=Yan (hs3.box b1 (by decide) (by decide) (by decide)) ga;have n13:v1.heap.size≠v3.heap.size:=(by have:=lt_of_block (hs3.box b10 (by decide) (by decide) (by decide));omega);replace b2:=Yan (hs3.box b2 (by decide) (by decide) (by decide)) ga;have n23:v2.heap.size≠v3.heap.size:=(by have:=lt_of_block (hs3.box b20 (by decide) (by decide) (by decide));omega))
  | (refine Yae rfl 46 _ _ rfl _ 0 rfl rfl z3 (by exact Nat.le_refl _) (by exact Ya0) (by simp [Value.oneCell']) ?_;intro W3 b3 g3;rw [Yau _ _ (by rfl)] at b3;have hE3:=hD3.past g3 z3 l3 (by decide) (by decide) (by decide);replace b1:=Ya3 b1 g3 n13;replace b2:=Ya3 b2 g3 n23;replace b10:=b1;replace b20:=b2;have b30:=b3;have hc4:=H4.out hE3)
  | (go_at_call 15;(with_reducible refine hc4.mono ?_);rintro en w4 ⟨g,pa,pc,c4,rfl,y3,y5,hg4⟩;obtain ⟨m0,m1,m2⟩:=Yaf (Yan b1 hg4);obtain ⟨n0,n1,n2⟩:=Yaf (Yan b2 hg4);obtain ⟨q0,q1,q2⟩:=Yaf (Yan b3 hg4)))
 go_ret
 exact ⟨rfl,Yaa hE3.gr hg4⟩
end
end Go.Proofs.YtfhiljglfhekdaaGreat
