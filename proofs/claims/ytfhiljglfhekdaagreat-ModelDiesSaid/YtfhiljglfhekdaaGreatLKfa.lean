/-
  Texts of one layer, one behind the other: memory, contracts of the functions, and what follows of them.
  Conditions: as each theorem says.
-/
import Derived.Test.YtfhiljglfhekdaaGreatLMpb
import Derived.Test.YtfhiljglfhekdaaGreatLKce
import Derived.Deep.MidRow
import Derived.Test.YtfhiljglfhekdaaGreatLTxa
import Derived.Test.YtfhiljglfhekdaaGreatLMob
import Derived.Test.YtfhiljglfhekdaaGreatModH
set_option linter.unusedVariables false
set_option linter.unusedSimpArgs false
set_option maxRecDepth 100000
namespace Go.Proofs.YtfhiljglfhekdaaGreat
open Go.RowKit
section
section
variable {w:World} {b:Nat} {t:TypeId}
theorem step_load_row {ops:Array Oper} {o:Oper} {a:Act} {K:Act→World→Prop} {Q:Exit→Act→World→Prop} {E:Prop} (hgd:o.guard=none) (ty:TypeId) (x:Operand) (ho:o.op=.load ty x)
  (b k:Nat) (hx:a.eval x=.pointer (some ⟨b,k,none⟩)) {cs:Array Value} (hb:w.heap[b]?=some (.cells cs t (0,0))) (ps:Array Value) (hps:∀ j v,ps[j]?=some v→cs[k+j]?=some v) (d:TypeDesc)
  (hu:Tryz.prog.underlying ty=some d) (hd:d.isRow=true) (hi:(Tryz.prog.info? ty).map (·.size)=some ps.size)
  (h:K (a.put o.dst (.agg ps)) w):if Region.wanted o (yielded ops a.tmps)=true then Oper.wp Tryz.prog o a w K Q else E:=by
 rw [if_pos (by simp [Region.wanted,hgd])]
 have hc:w.rangeAt b k ps.toList:=fun j v hj=>Yas hb (hps j v (by simpa using hj))
 refine wp_load_mid ty x ho b k hx ps.toList d hc hu hd (by simpa using hi) ?_
 simpa using h
theorem Ycz {S:World→Prop} {o:Oper} {a:Act} (ty:TypeId) (x:Operand) (ho:o.op=.load ty x)
  (b k:Nat) (hx:a.eval x=.pointer (some ⟨b,k,none⟩)) {cs:Array Value} (hS:∀ W,S W→W.heap[b]?=some (.cells cs t (0,0))) (ps:Array Value) (hps:∀ j v,ps[j]?=some v→cs[k+j]?=some v) (d:TypeDesc)
  (hu:Tryz.prog.underlying ty=some d) (hd:d.isRow=true) (hi:(Tryz.prog.info? ty).map (·.size)=some ps.size):∀ W,S W→(execOp a.eval o).run Tryz.prog W=.ok (.value (.agg ps)) W:=by
 intro W hW
 have h:=run_loadVar_mid (P:=Tryz.prog) W b k ty ps.toList d (fun j v hj=>Yas (hS W hW) (hps j v (by simpa using hj))) hu hd (by simpa using hi)
 rw [Array.toArray_toList] at h
 unfold execOp
 simp only [ho,hx,Instr.loadAt,Instr.sureAddr,Sem.run_bind,Sem.run_pure,Result.andThen_ok,h]
theorem Ybe {ops:Array Oper} {o:Oper} {a:Act} {K:Act→World→Prop} {Q:Exit→Act→World→Prop} {E:Prop} (hgd:o.guard=none) (ty:TypeId) (x y:Operand) (ho:o.op=.store ty x y)
  (b k:Nat) {ps cs:Array Value} (hx:a.eval x=.pointer (some ⟨b,k,none⟩)) (hy:a.eval y=.agg ps) (hb:w.heap[b]?=some (.cells cs t (0,0))) (hs:k+ps.size≤cs.size)
  (hi:(Tryz.prog.info? ty).map (·.size)=some ps.size) (h1:ps.all (·.oneCell')=true)
  (h:∀ w',w'.heap[b]?=some (.cells (ovr cs k ps.toList) t (0,0))→w.grownBy w' (some b)→K (a.put o.dst undef) w'):if Region.wanted o (yielded ops a.tmps)=true then Oper.wp Tryz.prog o a w K Q else E:=by
 rw [if_pos (by simp [Region.wanted,hgd])]
 have ht:w.there b k ps.size:=fun j hj=>by
  have e:cs[k+j]?=some cs[k+j]:=Array.getElem?_eq_getElem (by omega)
  exact ⟨by rw [Yas hb e];rfl,Ydw hb _⟩
 refine wp_store_mid ty x y ho b k ps hx hy ht hi h1 ?_
 obtain ⟨q1,q2⟩:=setCells_heap (b:=b) ps.toList w cs k hb
 exact h _ q1 q2
end
structure OpOk (x:OpM):Prop where
 n:x.n<18446744073709551616
 a:x.a<18446744073709551616
 off:x.off<18446744073709551616
 i:x.i<18446744073709551616
 v:x.v<18446744073709551616
 name:x.name.size≤maxLen
def rZ:Array Value:=#[.int .i64 0,.int .u64 0,.int .u64 0]
structure Bx (w W:World) (cs oc:Array Value):Prop where
 st:W.heap[w.heap.size]?=some (.cells cs 36 (0,0))
 op:W.heap[w.heap.size+1]?=some (.cells oc 41 (0,0))
 rs:W.heap[w.heap.size+1+1]?=some (.cells sZ 36 (0,0))
 rr:W.heap[w.heap.size+1+1+1]?=some (.cells rZ 46 (0,0))
 gr:w.grownBy W none
section
variable {w W w' W':World} {cs oc:Array Value} {F:Nat→Prop} {base all b:Nat} {v:Value} {S:MS} {t:TypeId}
theorem Bx.later (h:Bx w W cs oc) (hg:W.grownBy W' none):Bx w W' cs oc :=
 ⟨(hg.block _ (lt_of_block h.st) (by simp)).trans h.st,(hg.block _ (lt_of_block h.op) (by simp)).trans h.op,(hg.block _ (lt_of_block h.rs) (by simp)).trans h.rs,(hg.block _ (lt_of_block h.rr) (by simp)).trans h.rr,Yaa h.gr hg⟩
theorem Ybf (w:World) (cs oc:Array Value):Bx w ((((w.alloc (.cells cs 36)).alloc (.cells oc 41)).alloc (.cells sZ 36)).alloc (.cells rZ 46)) cs oc:=by
 have b1:=Yab w (.cells cs 36)
 have b2:=Yab (w.alloc (.cells cs 36)) (.cells oc 41)
 have b3:=Yab ((w.alloc (.cells cs 36)).alloc (.cells oc 41)) (.cells sZ 36)
 have b4:=Yab (((w.alloc (.cells cs 36)).alloc (.cells oc 41)).alloc (.cells sZ 36)) (.cells rZ 46)
 rw [World.size_alloc] at b2
 rw [World.size_alloc,World.size_alloc] at b3
 rw [World.size_alloc,World.size_alloc,World.size_alloc] at b4
 have g1:=World.grownBy_alloc w (.cells cs 36) none
 have g2:=World.grownBy_alloc (w.alloc (.cells cs 36)) (.cells oc 41) none
 have g3:=World.grownBy_alloc ((w.alloc (.cells cs 36)).alloc (.cells oc 41)) (.cells sZ 36) none
 have g4:=World.grownBy_alloc (((w.alloc (.cells cs 36)).alloc (.cells oc 41)).alloc (.cells sZ 36)) (.cells rZ 46) none
 have c1:=(g2.block _ (lt_of_block b1) (by simp)).trans b1
 have c1:=(g3.block _ (lt_of_block c1) (by simp)).trans c1
 have c2:=(g3.block _ (lt_of_block b2) (by simp)).trans b2
 exact ⟨(g4.block _ (lt_of_block c1) (by simp)).trans c1,(g4.block _ (lt_of_block c2) (by simp)).trans c2,(g4.block _ (lt_of_block b3) (by simp)).trans b3,b4,Yaa g1 (Yaa g2 (Yaa g3 g4))⟩
theorem StIs.past (h:StIs w F base v all S) (hg:w.grownBy w' (some b)) (hb:w.heap[b]?=some (.cells cs t (0,0))) (ht:boxT t):StIs w' F base v all S:=by
 obtain ⟨la,n,c,va,ln,vc,da,dn,dc,na,nn,nc,lD,h1,h2,h3,h4,h5,h6,h7⟩:=h
 have R:=(⟨h2,h3,h4,h6,h7⟩:Rows4 w F base la n c va ln vc S.bs S.L da dn dc lD na nn nc S.nm).past hg hb ht
 exact ⟨la,n,c,va,ln,vc,da,dn,dc,na,nn,nc,lD,h1,R.b,R.l,R.d,h5,R.n,R.f⟩
theorem StIs.cells (h:StIs w F base v all S):∃ cs:Array Value,v=.agg cs∧cs.size=21∧cs.all (·.oneCell')=true∧cs[0]?=some (.int .u64 all)∧∀ k,k<8→cs[13+k]?=some (.bool (S.lv k)):=by
 obtain ⟨la,n,c,va,ln,vc,da,dn,dc,na,nn,nc,lD,h1,h2,h3,h4,h5,h6,h7⟩:=h
 exact ⟨_,h1,rfl,sC_one,rfl,fun k hk=>sC_at_live hk⟩
theorem Bx.done {cs2:Array Value} {W1:World} {e p q:Int} (h:Bx w W cs oc) (hs:StIs W F base (.agg cs2) all S) (h1:W1.heap[w.heap.size+1+1]?=some (.cells cs2 36 (0,0))) (g1:W.grownBy W1 (some (w.heap.size+1+1))) :
  let W2:=((W1.setCell ⟨w.heap.size+1+1+1,0,none⟩ (.int .i64 e)).setCell ⟨w.heap.size+1+1+1,1,none⟩ (.int .u64 p)).setCell ⟨w.heap.size+1+1+1,2,none⟩ (.int .u64 q)
  W2.heap[w.heap.size+1+1]?=some (.cells cs2 36 (0,0))∧W2.heap[w.heap.size+1+1+1]?=some (.cells #[.int .i64 e,.int .u64 p,.int .u64 q] 46 (0,0))∧StIs W2 F base (.agg cs2) all S∧w.grownBy W2 none:=by
 have p3:=(g1.block _ (lt_of_block h.rr) (by simp)).trans h.rr
 have g2:W1.grownBy (((W1.setCell ⟨w.heap.size+1+1+1,0,none⟩ (.int .i64 e)).setCell ⟨w.heap.size+1+1+1,1,none⟩ (.int .u64 p)).setCell ⟨w.heap.size+1+1+1,2,none⟩ (.int .u64 q)) (some (w.heap.size+1+1+1)):=Yaa (Yac _ _ _ _) (Yaa (Yac _ _ _ _) (Yac _ _ _ _))
 refine ⟨(g2.block _ (lt_of_block h1) (by simp)).trans h1,Yaz p3,(hs.past g1 h.rs Ybt).past g2 p3 boxRs,?_⟩
 exact Yaj (Yaj h.gr g1 (fun i hi=>.inl (by injection hi with hi;omega))) g2 (fun i hi=>.inl (by injection hi with hi;omega))
theorem Bx.put (h:Bx w W cs oc) (k:Nat) (u:Value):Bx w (W.setCell ⟨w.heap.size,k,none⟩ u) (cs.setIfInBounds k u) oc:=by
 have g:=Yac W w.heap.size k u
 exact ⟨Yb7 h.st,(g.block _ (lt_of_block h.op) (by simp)).trans h.op,(g.block _ (lt_of_block h.rs) (by simp <;> omega)).trans h.rs,(g.block _ (lt_of_block h.rr) (by simp <;> omega)).trans h.rr,Yaj h.gr g (fun i hi=>.inl (by injection hi with hi;omega))⟩
theorem Bx.over {cs':Array Value} (h:Bx w W cs oc) (hb:W'.heap[w.heap.size]?=some (.cells cs' 36 (0,0))) (g:W.grownBy W' (some w.heap.size)):Bx w W' cs' oc :=
 ⟨hb,(g.block _ (lt_of_block h.op) (by simp)).trans h.op,(g.block _ (lt_of_block h.rs) (by simp <;> omega)).trans h.rs,(g.block _ (lt_of_block h.rr) (by simp <;> omega)).trans h.rr,Yaj h.gr g (fun i hi=>.inl (by injection hi with hi;omega))⟩
theorem Bx.res {W1:World} (h:Bx w W cs oc) (g1:W.grownBy W1 (some (w.heap.size+1+1))):W1.heap[w.heap.size+1+1+1]?=some (.cells #[.int .i64 0,.int .u64 0,.int .u64 0] 46 (0,0)):=(g1.block _ (lt_of_block h.rr) (by simp)).trans h.rr
theorem own_len {a:Option Addr} {m k:Nat} {ws:List Nat} (h:OwnW w base (.slice a m k) ws):m=ws.length:=by
 obtain ⟨a',c',e⟩:=h.slice
 injection e
theorem Ydx (h:StIs w F base v all S) (hd:S.ds.length≤1000000) (p:Nat) :
  Calls Tryz.prog 54 #[v,.int .u64 p] w fun e w'=>∃ a m k,e=.returned (.slice a m k)∧OwnW w' base (.slice a m k) (datL S.ds p)∧w.grownBy w' none:=by
 obtain ⟨la,n,c,va,ln,vc,da,dn,dc,na,nn,nc,lD,rfl,h2,h3,h4,h5,h6,h7⟩:=h
 have hl:lD.length≤1000000:=by
  have:lD.length=S.ds.length:=by rw [← h5];simp [Yc6]
  omega
 rw [← h5]
 exact rdata14 h4 hl p
theorem Ydn (h:StIs w F base v all S) (hn:S.nm.length≤1000000) (s:ByteArray) (p:Nat) :
  Calls Tryz.prog 81 #[v,.string s,.int .u64 p] w fun e w'=>e=.returned (.int .i64 (optM (nmdL S.nm s p S.nm.length 0)))∧w.grownBy w' none:=by
 obtain ⟨la,n,c,va,ln,vc,da,dn,dc,na,nn,nc,lD,rfl,h2,h3,h4,h5,h6,h7⟩:=h
 exact rnamed14 h6 hn s p
theorem Yc2 (h:StIs w F base v all S) (bad:Int) (V:World) :
  Calls Tryz.prog 48 #[v,.int .i64 bad] V fun e w'=>e=.returned (.tuple #[v,.agg #[.int .i64 bad,.int .u64 0,.int .u64 0]])∧V.grownBy w' none:=by
 obtain ⟨la,n,c,va,ln,vc,da,dn,dc,na,nn,nc,lD,rfl,h2,h3,h4,h5,h6,h7⟩:=h
 exact rtold14 bad
end
end
section
section
variable {w w' W:World} {F:Nat→Prop} {base all K c i:Nat} {v:Value} {S:MS} {x:OpM}
set_option maxHeartbeats 1000000 in
theorem rblk_bad (h:StIs w F base v all S) (hlen:S.bs.length≤1000000) (hc:c<8) (hne:ownR S c x≠0) :
  Calls Tryz.prog 53 #[v,.int .i64 c,.agg (opC x)] w fun e w'=>∃ v',e=.returned (.tuple #[v',.agg #[.int .i64 (ownR S c x),.int .u64 0,.int .u64 0]])∧StIs w' F base v' all S∧w.grownBy w' none:=by
 obtain ⟨cs,rfl,hs0,hs1,hs00,hsl⟩:=h.cells
 have BX:=Ybf w cs (opC x)
 obtain ⟨W0,hW0⟩:∃ W0,((((w.alloc (.cells cs 36)).alloc (.cells (opC x) 41)).alloc (.cells sZ 36)).alloc (.cells rZ 46))=W0:=⟨_,rfl⟩
 rw [hW0] at BX
 have HST:=Lib.hid h
 have hown:=fun (V:World) (hg:w.grownBy V none)=>Ydc (h.later hg) hlen hc x
 obtain ⟨r,er⟩:∃ r,ownR S c x=r:=⟨_,rfl⟩
 obtain ⟨z,ez⟩:∃ z,fstZ (pF x.off) S.bs=z:=⟨_,rfl⟩
 rw [er] at hne ⊢
 simp only [er,ez] at hown
 have htold:=fun (V:World)=>Yc2 h r V
 have hr:(r != 0)=true:=by simpa using hne
 have HOWN:=Lib.hid hown
 have HTOLD:=Lib.hid htold
 clear h hown htold er ez hne
 unfold sZ rZ at hW0
 go_enter Tryz.func53,Tryz.ntmps53
 go_wp2_with (first
  | (refine Yad rfl 36 _ rfl _ 0 rfl BX.st cs (fun j v hj=>by simpa using hj) _ Tryz.underlying36 rfl (by rw [Yai,hs0]) ?_)
  | (refine Yad rfl 41 _ rfl _ 0 rfl BX.op (opC x) (fun j v hj=>by simpa using hj) _ Tryz.underlying41 rfl Ybb ?_)
  | (go_at_call 83;(with_reducible refine (HOWN.out _ BX.gr).mono ?_);rintro e w1 ⟨rfl,hg1⟩;replace BX:=BX.later hg1)
  | (go_at_call 48;(with_reducible refine (HTOLD.out _).mono ?_);rintro e w2 ⟨rfl,hg2⟩;replace BX:=BX.later hg2)
  | (refine Yae rfl 36 _ _ rfl _ 0 rfl rfl BX.rs (by rw [hs0];exact Nat.le_refl _) (by rw [Yai,hs0]) hs1 ?_;intro W1 p1 g1;rw [Yau _ _ hs0] at p1;obtain ⟨y0,y1,y2⟩:=Yaf (BX.res g1);obtain ⟨z0,z1,z2⟩:=Yak (BX.res g1)))
 obtain ⟨q1,q2,q3,q4⟩:=BX.done (HST.out.later BX.gr) p1 g1 (e:=r) (p:=0) (q:=0)
 refine bodyPost_ret (Yav rfl _ rfl rfl q1 q2 Tryz.underlying36 rfl (by rw [Yai,hs0]) Tryz.underlying46 rfl Ya0) rfl ?_
 exact ⟨_,rfl,q3,q4⟩
set_option maxHeartbeats 2000000 in
theorem rblk_freeNo (h:StIs w F base v all S) (hlen:S.bs.length≤1000000) (hds:S.ds.length≤1000000) (hnm:S.nm.length≤1000000) (hc:c<8) (hx:OpOk x) (hz:ownR S c x=0) (hk:x.kind=5) {j:Nat} (hj:nmdL S.nm (ByteArray.mk #[]) x.off S.nm.length 0=some j) :
  Calls Tryz.prog 53 #[v,.int .i64 c,.agg (opC x)] w fun e w'=>∃ v',e=.returned (.tuple #[v',.agg #[.int .i64 7,.int .u64 0,.int .u64 0]])∧StIs w' F base v' all S∧w.grownBy w' none:=by
 obtain ⟨cs,rfl,hs0,hs1,hs00,hsl⟩:=h.cells
 have BX:=Ybf w cs (opC x)
 obtain ⟨W0,hW0⟩:∃ W0,((((w.alloc (.cells cs 36)).alloc (.cells (opC x) 41)).alloc (.cells sZ 36)).alloc (.cells rZ 46))=W0:=⟨_,rfl⟩
 rw [hW0] at BX
 have HST:=Lib.hid h
 have hown:=fun (V:World) (hg:w.grownBy V none)=>Ydc (h.later hg) hlen hc x
 obtain ⟨z,ez⟩:∃ z,fstZ (pF x.off) S.bs=z:=⟨_,rfl⟩
 simp only [hz,ez] at hown
 have hdata:=fun (V:World) (hg:w.grownBy V none)=>Ydx (h.later hg) hds x.off
 have HOWN:=Lib.hid hown
 have HDATA:=Lib.hid hdata
 clear hown hdata ez hz
 have hnamed:=fun (V:World) (hg:w.grownBy V none)=>Ydn (h.later hg) hnm (ByteArray.mk #[]) x.off
 rw [hj] at hnamed
 have hj0:(0:Int)≤optM (some j):=Int.natCast_nonneg j
 obtain ⟨oj,eoj⟩:∃ oj,optM (some j)=oj:=⟨_,rfl⟩
 rw [eoj] at hj0
 simp only [eoj] at hnamed
 have htold:=fun (V:World)=>Yc2 h 7 V
 have HNAMED:=Lib.hid hnamed
 have HTOLD:=Lib.hid htold
 clear h hnamed htold hj
 unfold sZ rZ at hW0
 go_enter Tryz.func53,Tryz.ntmps53
 go_wp2_with (first
  | (refine Yad rfl 36 _ rfl _ 0 rfl BX.st cs (fun j v hj=>by simpa using hj) _ Tryz.underlying36 rfl (by rw [Yai,hs0]) ?_)
  | (refine Yad rfl 41 _ rfl _ 0 rfl BX.op (opC x) (fun j v hj=>by simpa using hj) _ Tryz.underlying41 rfl Ybb ?_)
  | (go_at_call 83;(with_reducible refine (HOWN.out _ BX.gr).mono ?_);rintro e w1 ⟨rfl,hg1⟩;replace BX:=BX.later hg1;obtain ⟨d0,d1,d2,d3,d4,d5,d6,d7⟩:=Yal BX.op;rw [hk] at d0)
  | (go_at_call 54;(with_reducible refine (HDATA.out _ BX.gr).mono ?_);rintro e w3 ⟨da,dm,dk,rfl,hdw,hg3⟩;replace BX:=BX.later hg3;obtain ⟨d0,d1,d2,d3,d4,d5,d6,d7⟩:=Yal BX.op;rw [hk] at d0)
  | (go_at_call 81;(with_reducible refine (HNAMED.out _ BX.gr).mono ?_);rintro e w4 ⟨rfl,hg4⟩;replace BX:=BX.later hg4)
  | (go_at_call 48;(with_reducible refine (HTOLD.out _).mono ?_);rintro e w2 ⟨rfl,hg2⟩;replace BX:=BX.later hg2)
  | (refine Yae rfl 36 _ _ rfl _ 0 rfl rfl BX.rs (by rw [hs0];exact Nat.le_refl _) (by rw [Yai,hs0]) hs1 ?_;intro W1 p1 g1;rw [Yau _ _ hs0] at p1;obtain ⟨y0,y1,y2⟩:=Yaf (BX.res g1);obtain ⟨z0,z1,z2⟩:=Yak (BX.res g1)))
 obtain ⟨q1,q2,q3,q4⟩:=BX.done (HST.out.later BX.gr) p1 g1 (e:=7) (p:=0) (q:=0)
 refine bodyPost_ret (Yav rfl _ rfl rfl q1 q2 Tryz.underlying36 rfl (by rw [Yai,hs0]) Tryz.underlying46 rfl Ya0) rfl ?_
 exact ⟨_,rfl,q3,q4⟩
set_option maxHeartbeats 2000000 in
theorem rblk_giveArg (h:StIs w F base v all S) (hlen:S.bs.length≤1000000) (hds:S.ds.length≤1000000) (hnm:S.nm.length≤1000000) (hc:c<8) (hx:OpOk x) (hz:ownR S c x=0) (hk:x.kind=12) (hto:¬ (0≤x.to∧x.to<8)) :
  Calls Tryz.prog 53 #[v,.int .i64 c,.agg (opC x)] w fun e w'=>∃ v',e=.returned (.tuple #[v',.agg #[.int .i64 1,.int .u64 0,.int .u64 0]])∧StIs w' F base v' all S∧w.grownBy w' none:=by
 obtain ⟨cs,rfl,hs0,hs1,hs00,hsl⟩:=h.cells
 have BX:=Ybf w cs (opC x)
 obtain ⟨W0,hW0⟩:∃ W0,((((w.alloc (.cells cs 36)).alloc (.cells (opC x) 41)).alloc (.cells sZ 36)).alloc (.cells rZ 46))=W0:=⟨_,rfl⟩
 rw [hW0] at BX
 have HST:=Lib.hid h
 have hown:=fun (V:World) (hg:w.grownBy V none)=>Ydc (h.later hg) hlen hc x
 obtain ⟨z,ez⟩:∃ z,fstZ (pF x.off) S.bs=z:=⟨_,rfl⟩
 simp only [hz,ez] at hown
 have hdata:=fun (V:World) (hg:w.grownBy V none)=>Ydx (h.later hg) hds x.off
 have HOWN:=Lib.hid hown
 have HDATA:=Lib.hid hdata
 clear hown hdata ez hz
 have htold:=fun (V:World)=>Yc2 h 1 V
 have HTOLD:=Lib.hid htold
 clear h htold
 by_cases h0:x.to<0
 ·have h7:¬ 7<x.to:=by omega
  clear hto
  unfold sZ rZ at hW0
  go_enter Tryz.func53,Tryz.ntmps53
  go_wp2_with (first
   | (refine Yad rfl 36 _ rfl _ 0 rfl BX.st cs (fun j v hj=>by simpa using hj) _ Tryz.underlying36 rfl (by rw [Yai,hs0]) ?_)
   | (refine Yad rfl 41 _ rfl _ 0 rfl BX.op (opC x) (fun j v hj=>by simpa using hj) _ Tryz.underlying41 rfl Ybb ?_)
   | (go_at_call 83;(with_reducible refine (HOWN.out _ BX.gr).mono ?_);rintro e w1 ⟨rfl,hg1⟩;replace BX:=BX.later hg1;obtain ⟨d0,d1,d2,d3,d4,d5,d6,d7⟩:=Yal BX.op;rw [hk] at d0)
   | (go_at_call 54;(with_reducible refine (HDATA.out _ BX.gr).mono ?_);rintro e w3 ⟨da,dm,dk,rfl,hdw,hg3⟩;replace BX:=BX.later hg3;obtain ⟨d0,d1,d2,d3,d4,d5,d6,d7⟩:=Yal BX.op;rw [hk] at d0)
   | (go_at_call 48;(with_reducible refine (HTOLD.out _).mono ?_);rintro e w2 ⟨rfl,hg2⟩;replace BX:=BX.later hg2)
   | (refine Yae rfl 36 _ _ rfl _ 0 rfl rfl BX.rs (by rw [hs0];exact Nat.le_refl _) (by rw [Yai,hs0]) hs1 ?_;intro W1 p1 g1;rw [Yau _ _ hs0] at p1;obtain ⟨y0,y1,y2⟩:=Yaf (BX.res g1);obtain ⟨z0,z1,z2⟩:=Yak (BX.res g1)))
  obtain ⟨q1,q2,q3,q4⟩:=BX.done (HST.out.later BX.gr) p1 g1 (e:=1) (p:=0) (q:=0)
  refine bodyPost_ret (Yav rfl _ rfl rfl q1 q2 Tryz.underlying36 rfl (by rw [Yai,hs0]) Tryz.underlying46 rfl Ya0) rfl ?_
  exact ⟨_,rfl,q3,q4⟩
 ·have h7:7<x.to:=by omega
  clear hto
  unfold sZ rZ at hW0
  go_enter Tryz.func53,Tryz.ntmps53
  go_wp2_with (first
   | (refine Yad rfl 36 _ rfl _ 0 rfl BX.st cs (fun j v hj=>by simpa using hj) _ Tryz.underlying36 rfl (by rw [Yai,hs0]) ?_)
   | (refine Yad rfl 41 _ rfl _ 0 rfl BX.op (opC x) (fun j v hj=>by simpa using hj) _ Tryz.underlying41 rfl Ybb ?_)
   | (go_at_call 83;(with_reducible refine (HOWN.out _ BX.gr).mono ?_);rintro e w1 ⟨rfl,hg1⟩;replace BX:=BX.later hg1;obtain ⟨d0,d1,d2,d3,d4,d5,d6,d7⟩:=Yal BX.op;rw [hk] at d0)
   | (go_at_call 54;(with_reducible refine (HDATA.out _ BX.gr).mono ?_);rintro e w3 ⟨da,dm,dk,rfl,hdw,hg3⟩;replace BX:=BX.later hg3;obtain ⟨d0,d1,d2,d3,d4,d5,d6,d7⟩:=Yal BX.op;rw [hk] at d0)
   | (go_at_call 48;(with_reducible refine (HTOLD.out _).mono ?_);rintro e w2 ⟨rfl,hg2⟩;replace BX:=BX.later hg2)
   | (refine Yae rfl 36 _ _ rfl _ 0 rfl rfl BX.rs (by rw [hs0];exact Nat.le_refl _) (by rw [Yai,hs0]) hs1 ?_;intro W1 p1 g1;rw [Yau _ _ hs0] at p1;obtain ⟨y0,y1,y2⟩:=Yaf (BX.res g1);obtain ⟨z0,z1,z2⟩:=Yak (BX.res g1)))
  obtain ⟨q1,q2,q3,q4⟩:=BX.done (HST.out.later BX.gr) p1 g1 (e:=1) (p:=0) (q:=0)
  refine bodyPost_ret (Yav rfl _ rfl rfl q1 q2 Tryz.underlying36 rfl (by rw [Yai,hs0]) Tryz.underlying46 rfl Ya0) rfl ?_
  exact ⟨_,rfl,q3,q4⟩
set_option maxHeartbeats 2000000 in
theorem rblk_out (h:StIs w F base v all S) (hlen:S.bs.length≤1000000) (hds:S.ds.length≤1000000) (hnm:S.nm.length≤1000000) (hc:c<8) (hx:OpOk x) (hz:ownR S c x=0) (hk:x.kind=6∨x.kind=7) (hle:(datL S.ds x.off).length≤x.i) (hdl:(datL S.ds x.off).length≤1000000) :
  Calls Tryz.prog 53 #[v,.int .i64 c,.agg (opC x)] w fun e w'=>∃ v',e=.returned (.tuple #[v',.agg #[.int .i64 1,.int .u64 0,.int .u64 0]])∧StIs w' F base v' all S∧w.grownBy w' none:=by
 obtain ⟨cs,rfl,hs0,hs1,hs00,hsl⟩:=h.cells
 have BX:=Ybf w cs (opC x)
 obtain ⟨W0,hW0⟩:∃ W0,((((w.alloc (.cells cs 36)).alloc (.cells (opC x) 41)).alloc (.cells sZ 36)).alloc (.cells rZ 46))=W0:=⟨_,rfl⟩
 rw [hW0] at BX
 have HST:=Lib.hid h
 have hown:=fun (V:World) (hg:w.grownBy V none)=>Ydc (h.later hg) hlen hc x
 obtain ⟨z,ez⟩:∃ z,fstZ (pF x.off) S.bs=z:=⟨_,rfl⟩
 simp only [hz,ez] at hown
 have hdata:=fun (V:World) (hg:w.grownBy V none)=>Ydx (h.later hg) hds x.off
 have HOWN:=Lib.hid hown
 have HDATA:=Lib.hid hdata
 clear hown hdata ez hz
 have htold:=fun (V:World)=>Yc2 h 1 V
 have HTOLD:=Lib.hid htold
 have hxi:=hx.i
 have HL:=Lib.hid hle
 have HDL:=Lib.hid hdl
 clear h htold hle hdl hx
 rcases hk with hk|hk
 ·skip
  unfold sZ rZ at hW0
  go_enter Tryz.func53,Tryz.ntmps53
  go_wp2_with (first
   | (refine Yad rfl 36 _ rfl _ 0 rfl BX.st cs (fun j v hj=>by simpa using hj) _ Tryz.underlying36 rfl (by rw [Yai,hs0]) ?_)
   | (refine Yad rfl 41 _ rfl _ 0 rfl BX.op (opC x) (fun j v hj=>by simpa using hj) _ Tryz.underlying41 rfl Ybb ?_)
   | (go_at_call 83;(with_reducible refine (HOWN.out _ BX.gr).mono ?_);rintro e w1 ⟨rfl,hg1⟩;replace BX:=BX.later hg1;obtain ⟨d0,d1,d2,d3,d4,d5,d6,d7⟩:=Yal BX.op;rw [hk] at d0)
   | (go_at_call 54;(with_reducible refine (HDATA.out _ BX.gr).mono ?_);rintro e w3 ⟨da,dm,dk,rfl,hdw,hg3⟩;replace BX:=BX.later hg3;obtain ⟨d0,d1,d2,d3,d4,d5,d6,d7⟩:=Yal BX.op;rw [hk] at d0;have hm:=own_len hdw;have hle2:dm≤x.i:=(by rw [hm];exact HL.out);have hdm:dm≤1000000:=(by rw [hm];exact HDL.out))
   | (go_at_call 48;(with_reducible refine (HTOLD.out _).mono ?_);rintro e w2 ⟨rfl,hg2⟩;replace BX:=BX.later hg2)
   | (refine Yae rfl 36 _ _ rfl _ 0 rfl rfl BX.rs (by rw [hs0];exact Nat.le_refl _) (by rw [Yai,hs0]) hs1 ?_;intro W1 p1 g1;rw [Yau _ _ hs0] at p1;obtain ⟨y0,y1,y2⟩:=Yaf (BX.res g1);obtain ⟨z0,z1,z2⟩:=Yak (BX.res g1)))
  obtain ⟨q1,q2,q3,q4⟩:=BX.done (HST.out.later BX.gr) p1 g1 (e:=1) (p:=0) (q:=0)
  refine bodyPost_ret (Yav rfl _ rfl rfl q1 q2 Tryz.underlying36 rfl (by rw [Yai,hs0]) Tryz.underlying46 rfl Ya0) rfl ?_
  exact ⟨_,rfl,q3,q4⟩
 ·skip
  unfold sZ rZ at hW0
  go_enter Tryz.func53,Tryz.ntmps53
  go_wp2_with (first
   | (refine Yad rfl 36 _ rfl _ 0 rfl BX.st cs (fun j v hj=>by simpa using hj) _ Tryz.underlying36 rfl (by rw [Yai,hs0]) ?_)
   | (refine Yad rfl 41 _ rfl _ 0 rfl BX.op (opC x) (fun j v hj=>by simpa using hj) _ Tryz.underlying41 rfl Ybb ?_)
   | (go_at_call 83;(with_reducible refine (HOWN.out _ BX.gr).mono ?_);rintro e w1 ⟨rfl,hg1⟩;replace BX:=BX.later hg1;obtain ⟨d0,d1,d2,d3,d4,d5,d6,d7⟩:=Yal BX.op;rw [hk] at d0)
   | (go_at_call 54;(with_reducible refine (HDATA.out _ BX.gr).mono ?_);rintro e w3 ⟨da,dm,dk,rfl,hdw,hg3⟩;replace BX:=BX.later hg3;obtain ⟨d0,d1,d2,d3,d4,d5,d6,d7⟩:=Yal BX.op;rw [hk] at d0;have hm:=own_len hdw;have hle2:dm≤x.i:=(by rw [hm];exact HL.out);have hdm:dm≤1000000:=(by rw [hm];exact HDL.out))
   | (go_at_call 48;(with_reducible refine (HTOLD.out _).mono ?_);rintro e w2 ⟨rfl,hg2⟩;replace BX:=BX.later hg2)
   | (refine Yae rfl 36 _ _ rfl _ 0 rfl rfl BX.rs (by rw [hs0];exact Nat.le_refl _) (by rw [Yai,hs0]) hs1 ?_;intro W1 p1 g1;rw [Yau _ _ hs0] at p1;obtain ⟨y0,y1,y2⟩:=Yaf (BX.res g1);obtain ⟨z0,z1,z2⟩:=Yak (BX.res g1)))
  obtain ⟨q1,q2,q3,q4⟩:=BX.done (HST.out.later BX.gr) p1 g1 (e:=1) (p:=0) (q:=0)
  refine bodyPost_ret (Yav rfl _ rfl rfl q1 q2 Tryz.underlying36 rfl (by rw [Yai,hs0]) Tryz.underlying46 rfl Ya0) rfl ?_
  exact ⟨_,rfl,q3,q4⟩
end
end
section
section
variable {w w' W:World} {F:Nat→Prop} {base all K c i:Nat} {v:Value} {S:MS} {x:OpM}
set_option maxHeartbeats 2000000 in
theorem rblk_free (h:StIs w F base v all S) (hF:Fine 64 S.E S.bs S.L) (hds:S.ds.length≤1000000) (hnm:S.nm.length≤1000000) (hFb:∀ g,F g→g<w.heap.size) (hbw:base≤w.heap.size) (hc:c<8) (hz:ownR S c x=0) (hk:x.kind=5) (hj:nmdL S.nm (ByteArray.mk #[]) x.off S.nm.length 0=none) :
  Calls Tryz.prog 53 #[v,.int .i64 c,.agg (opC x)] w fun e w'=>∃ v',e=.returned (.tuple #[v',.agg #[.int .i64 0,.int .u64 0,.int .u64 0]])∧StIs w' F base v' all { S with bs:=frB S.bs x.off,L:=frL S.bs S.L x.off,ds:=drpL S.ds x.off }∧w.grownBy w' none:=by
 obtain ⟨cs,rfl,hs0,hs1,hs00,hsl⟩:=h.cells
 have BX:=Ybf w cs (opC x)
 obtain ⟨W0,hW0⟩:∃ W0,((((w.alloc (.cells cs 36)).alloc (.cells (opC x) 41)).alloc (.cells sZ 36)).alloc (.cells rZ 46))=W0:=⟨_,rfl⟩
 rw [hW0] at BX
 have HST:=Lib.hid h
 have hlen:S.bs.length≤1000000:=by have:=hF.few;omega
 have hown:=fun (V:World) (hg:w.grownBy V none)=>Ydc (h.later hg) hlen hc x
 obtain ⟨z,ez⟩:∃ z,fstZ (pF x.off) S.bs=z:=⟨_,rfl⟩
 simp only [hz,ez] at hown
 have hdata:=fun (V:World) (hg:w.grownBy V none)=>Ydx (h.later hg) hds x.off
 have HOWN:=Lib.hid hown
 have HDATA:=Lib.hid hdata
 have hnamed:=fun (V:World) (hg:w.grownBy V none)=>Ydn (h.later hg) hnm (ByteArray.mk #[]) x.off
 rw [hj] at hnamed
 have hfreed:=fun (V:World) (hg:w.grownBy V none)=>rfreed14 (h.later hg) hF (by decide) hds (fun g k=>Nat.lt_of_lt_of_le (hFb g k) hg.size) (Nat.le_trans hbw hg.size) x.off
 obtain ⟨S2,eS2⟩:∃ S2,({ S with bs:=frB S.bs x.off,L:=frL S.bs S.L x.off,ds:=drpL S.ds x.off }:MS)=S2:=⟨_,rfl⟩
 rw [eS2]
 simp only [eS2] at hfreed
 replace hnamed:∀ V:World,w.grownBy V none→Calls Tryz.prog 81 #[.agg cs,.string (ByteArray.mk #[]),.int .u64 x.off] V fun e w'=>e=.returned (.int .i64 (-1))∧V.grownBy w' none:=hnamed
 have HNAMED:=Lib.hid hnamed
 have HFREED:=Lib.hid hfreed
 clear h hown hdata hnamed hfreed hj eS2 ez hz hF
 unfold sZ rZ at hW0
 go_enter Tryz.func53,Tryz.ntmps53
 go_wp2_with (first
  | (refine Yad rfl 36 _ rfl _ 0 rfl BX.st cs (fun j v hj=>by simpa using hj) _ Tryz.underlying36 rfl (by rw [Yai,hs0]) ?_)
  | (refine Yad rfl 41 _ rfl _ 0 rfl BX.op (opC x) (fun j v hj=>by simpa using hj) _ Tryz.underlying41 rfl Ybb ?_)
  | (go_at_call 83;(with_reducible refine (HOWN.out _ BX.gr).mono ?_);rintro e w1 ⟨rfl,hg1⟩;replace BX:=BX.later hg1;obtain ⟨d0,d1,d2,d3,d4,d5,d6,d7⟩:=Yal BX.op;rw [hk] at d0)
  | (go_at_call 54;(with_reducible refine (HDATA.out _ BX.gr).mono ?_);rintro e w3 ⟨da,dm,dk,rfl,hdw,hg3⟩;replace BX:=BX.later hg3;obtain ⟨d0,d1,d2,d3,d4,d5,d6,d7⟩:=Yal BX.op;rw [hk] at d0)
  | (go_at_call 81;(with_reducible refine (HNAMED.out _ BX.gr).mono ?_);rintro e w4 ⟨rfl,hg4⟩;replace BX:=BX.later hg4;obtain ⟨d0,d1,d2,d3,d4,d5,d6,d7⟩:=Yal BX.op;rw [hk] at d0)
  | (go_at_call 41;(with_reducible refine (HFREED.out _ BX.gr).mono ?_);rintro e w5 ⟨v5,rfl,hs5,hg5⟩;replace BX:=BX.later hg5;obtain ⟨cs5,rfl,t0,t1,-,-⟩:=hs5.cells)
  | (refine Yae rfl 36 _ _ rfl _ 0 rfl rfl BX.rs (by rw [t0];exact Nat.le_refl _) (by rw [Yai,t0]) t1 ?_;intro W1 p1 g1;rw [Yau _ _ t0] at p1;obtain ⟨y0,y1,y2⟩:=Yaf (BX.res g1);obtain ⟨z0,z1,z2⟩:=Yak (BX.res g1)))
 obtain ⟨q1,q2,q3,q4⟩:=BX.done hs5 p1 g1 (e:=0) (p:=0) (q:=0)
 refine bodyPost_ret (Yav rfl _ rfl rfl q1 q2 Tryz.underlying36 rfl (by rw [Yai,t0]) Tryz.underlying46 rfl Ya0) rfl ?_
 exact ⟨_,rfl,q3,q4⟩
set_option maxHeartbeats 2000000 in
theorem rblk_publish (h:StIs w F base v all S) (hF:Fine 64 S.E S.bs S.L) (hds:S.ds.length≤1000000) (hnm:S.nm.length≤1000000) (hFb:∀ g,F g→g<w.heap.size) (hbw:base≤w.heap.size) (hc:c<8) (hz:ownR S c x=0) (hk:x.kind=11) (hi:fstN (pF x.off) S.bs=some i) (hw:gW S.bs i=((c+1:Nat):Int)) :
  Calls Tryz.prog 53 #[v,.int .i64 c,.agg (opC x)] w fun e w'=>∃ v',e=.returned (.tuple #[v',.agg #[.int .i64 0,.int .u64 0,.int .u64 0]])∧StIs w' F base v' all (mOwn S i 0)∧w.grownBy w' none:=by
 obtain ⟨cs,rfl,hs0,hs1,hs00,hsl⟩:=h.cells
 have BX:=Ybf w cs (opC x)
 obtain ⟨W0,hW0⟩:∃ W0,((((w.alloc (.cells cs 36)).alloc (.cells (opC x) 41)).alloc (.cells sZ 36)).alloc (.cells rZ 46))=W0:=⟨_,rfl⟩
 rw [hW0] at BX
 have HST:=Lib.hid h
 have hlen:S.bs.length≤1000000:=by have:=hF.few;omega
 have hown:=fun (V:World) (hg:w.grownBy V none)=>Ydc (h.later hg) hlen hc x
 obtain ⟨z,ez⟩:∃ z,fstZ (pF x.off) S.bs=z:=⟨_,rfl⟩
 simp only [hz,ez] at hown
 have hdata:=fun (V:World) (hg:w.grownBy V none)=>Ydx (h.later hg) hds x.off
 have HOWN:=Lib.hid hown
 have HDATA:=Lib.hid hdata
 have hi2:=(Ydr hi).1
 have hf2:fstZ (pF x.off) S.bs=(i:Int):=by unfold fstZ;rw [hi]
 rw [hf2] at ez
 subst ez
 have hlb:S.bs.length≤1000:=by have:=hF.few;omega
 have hlL:∀ k,k<8→(S.L k).length≤1000:=fun k hk=>by have:=hF.lists k hk;omega
 have howner:=fun (V:World) (hg:w.grownBy V none)=>rowner14 (h.later hg) hlb hlL (fun g k=>Nat.lt_of_lt_of_le (hFb g k) hg.size) (Nat.le_trans hbw hg.size) hi2 hw (by omega) 0 (by omega)
 obtain ⟨S2,eS2⟩:∃ S2,mOwn S i 0=S2:=⟨_,rfl⟩
 rw [eS2]
 simp only [eS2] at howner
 replace howner:∀ V:World,w.grownBy V none→Calls Tryz.prog 85 #[.agg cs,.int .i64 i,.int .i64 0] V fun e w'=>∃ v',e=.returned v'∧StIs w' F base v' all S2∧V.grownBy w' none:=howner
 have HOWNER:=Lib.hid howner
 clear h hown hdata howner eS2 hz hF hf2 hi hw
 unfold sZ rZ at hW0
 go_enter Tryz.func53,Tryz.ntmps53
 go_wp2_with (first
  | (refine Yad rfl 36 _ rfl _ 0 rfl BX.st cs (fun j v hj=>by simpa using hj) _ Tryz.underlying36 rfl (by rw [Yai,hs0]) ?_)
  | (refine Yad rfl 41 _ rfl _ 0 rfl BX.op (opC x) (fun j v hj=>by simpa using hj) _ Tryz.underlying41 rfl Ybb ?_)
  | (go_at_call 83;(with_reducible refine (HOWN.out _ BX.gr).mono ?_);rintro e w1 ⟨rfl,hg1⟩;replace BX:=BX.later hg1;obtain ⟨d0,d1,d2,d3,d4,d5,d6,d7⟩:=Yal BX.op;rw [hk] at d0)
  | (go_at_call 54;(with_reducible refine (HDATA.out _ BX.gr).mono ?_);rintro e w3 ⟨da,dm,dk,rfl,hdw,hg3⟩;replace BX:=BX.later hg3;obtain ⟨d0,d1,d2,d3,d4,d5,d6,d7⟩:=Yal BX.op;rw [hk] at d0)
  | (go_at_call 85;(with_reducible refine (HOWNER.out _ BX.gr).mono ?_);rintro e w5 ⟨v5,rfl,hs5,hg5⟩;replace BX:=BX.later hg5;obtain ⟨cs5,rfl,t0,t1,-,-⟩:=hs5.cells)
  | (refine Yae rfl 36 _ _ rfl _ 0 rfl rfl BX.rs (by rw [t0];exact Nat.le_refl _) (by rw [Yai,t0]) t1 ?_;intro W1 p1 g1;rw [Yau _ _ t0] at p1;obtain ⟨y0,y1,y2⟩:=Yaf (BX.res g1);obtain ⟨z0,z1,z2⟩:=Yak (BX.res g1)))
 obtain ⟨q1,q2,q3,q4⟩:=BX.done hs5 p1 g1 (e:=0) (p:=0) (q:=0)
 refine bodyPost_ret (Yav rfl _ rfl rfl q1 q2 Tryz.underlying36 rfl (by rw [Yai,t0]) Tryz.underlying46 rfl Ya0) rfl ?_
 exact ⟨_,rfl,q3,q4⟩
set_option maxHeartbeats 2000000 in
theorem rblk_giveNone {k:Nat} (h:StIs w F base v all S) (hF:Fine 64 S.E S.bs S.L) (hds:S.ds.length≤1000000) (hnm:S.nm.length≤1000000) (hFb:∀ g,F g→g<w.heap.size) (hbw:base≤w.heap.size) (hc:c<8) (hz:ownR S c x=0) (hk:x.kind=12) (hk8:k<8) (hto:x.to=(k:Int)) (hl:S.lv k=false) :
  Calls Tryz.prog 53 #[v,.int .i64 c,.agg (opC x)] w fun e w'=>∃ v',e=.returned (.tuple #[v',.agg #[.int .i64 6,.int .u64 0,.int .u64 0]])∧StIs w' F base v' all S∧w.grownBy w' none:=by
 obtain ⟨cs,rfl,hs0,hs1,hs00,hsl⟩:=h.cells
 have BX:=Ybf w cs (opC x)
 obtain ⟨W0,hW0⟩:∃ W0,((((w.alloc (.cells cs 36)).alloc (.cells (opC x) 41)).alloc (.cells sZ 36)).alloc (.cells rZ 46))=W0:=⟨_,rfl⟩
 rw [hW0] at BX
 have HST:=Lib.hid h
 have hlen:S.bs.length≤1000000:=by have:=hF.few;omega
 have hown:=fun (V:World) (hg:w.grownBy V none)=>Ydc (h.later hg) hlen hc x
 obtain ⟨z,ez⟩:∃ z,fstZ (pF x.off) S.bs=z:=⟨_,rfl⟩
 simp only [hz,ez] at hown
 have hdata:=fun (V:World) (hg:w.grownBy V none)=>Ydx (h.later hg) hds x.off
 have HOWN:=Lib.hid hown
 have HDATA:=Lib.hid hdata
 have htold:=fun (V:World)=>Yc2 h 6 V
 have HTOLD:=Lib.hid htold
 have h0:¬ (k:Int)<0:=by omega
 have h7:¬ 7<(k:Int):=by omega
 clear h hown hdata htold ez hz hF
 unfold sZ rZ at hW0
 go_enter Tryz.func53,Tryz.ntmps53
 go_wp2_with (first
  | (refine Yad rfl 36 _ rfl _ 0 rfl BX.st cs (fun j v hj=>by simpa using hj) _ Tryz.underlying36 rfl (by rw [Yai,hs0]) ?_)
  | (refine Yad rfl 41 _ rfl _ 0 rfl BX.op (opC x) (fun j v hj=>by simpa using hj) _ Tryz.underlying41 rfl Ybb ?_)
  | (go_at_call 83;(with_reducible refine (HOWN.out _ BX.gr).mono ?_);rintro e w1 ⟨rfl,hg1⟩;replace BX:=BX.later hg1;obtain ⟨d0,d1,d2,d3,d4,d5,d6,d7⟩:=Yal BX.op;rw [hk] at d0;rw [hto] at d6)
  | (go_at_call 54;(with_reducible refine (HDATA.out _ BX.gr).mono ?_);rintro e w3 ⟨da,dm,dk,rfl,hdw,hg3⟩;replace BX:=BX.later hg3;obtain ⟨d0,d1,d2,d3,d4,d5,d6,d7⟩:=Yal BX.op;rw [hk] at d0;rw [hto] at d6;have cl:=Yas BX.st (hsl k hk8);rw [hl] at cl)
  | (go_at_call 48;(with_reducible refine (HTOLD.out _).mono ?_);rintro e w2 ⟨rfl,hg2⟩;replace BX:=BX.later hg2)
  | (refine Yae rfl 36 _ _ rfl _ 0 rfl rfl BX.rs (by rw [hs0];exact Nat.le_refl _) (by rw [Yai,hs0]) hs1 ?_;intro W1 p1 g1;rw [Yau _ _ hs0] at p1;obtain ⟨y0,y1,y2⟩:=Yaf (BX.res g1);obtain ⟨z0,z1,z2⟩:=Yak (BX.res g1)))
 obtain ⟨q1,q2,q3,q4⟩:=BX.done (HST.out.later BX.gr) p1 g1 (e:=6) (p:=0) (q:=0)
 refine bodyPost_ret (Yav rfl _ rfl rfl q1 q2 Tryz.underlying36 rfl (by rw [Yai,hs0]) Tryz.underlying46 rfl Ya0) rfl ?_
 exact ⟨_,rfl,q3,q4⟩
set_option maxHeartbeats 2000000 in
theorem rblk_give {k:Nat} (h:StIs w F base v all S) (hF:Fine 64 S.E S.bs S.L) (hds:S.ds.length≤1000000) (hnm:S.nm.length≤1000000) (hFb:∀ g,F g→g<w.heap.size) (hbw:base≤w.heap.size) (hc:c<8) (hz:ownR S c x=0) (hk:x.kind=12) (hk8:k<8) (hto:x.to=(k:Int)) (hl:S.lv k=true) (hi:fstN (pF x.off) S.bs=some i) (hw:gW S.bs i=((c+1:Nat):Int)) :
  Calls Tryz.prog 53 #[v,.int .i64 c,.agg (opC x)] w fun e w'=>∃ v',e=.returned (.tuple #[v',.agg #[.int .i64 0,.int .u64 0,.int .u64 0]])∧StIs w' F base v' all (mOwn S i (k+1))∧w.grownBy w' none:=by
 obtain ⟨cs,rfl,hs0,hs1,hs00,hsl⟩:=h.cells
 have BX:=Ybf w cs (opC x)
 obtain ⟨W0,hW0⟩:∃ W0,((((w.alloc (.cells cs 36)).alloc (.cells (opC x) 41)).alloc (.cells sZ 36)).alloc (.cells rZ 46))=W0:=⟨_,rfl⟩
 rw [hW0] at BX
 have HST:=Lib.hid h
 have hlen:S.bs.length≤1000000:=by have:=hF.few;omega
 have hown:=fun (V:World) (hg:w.grownBy V none)=>Ydc (h.later hg) hlen hc x
 obtain ⟨z,ez⟩:∃ z,fstZ (pF x.off) S.bs=z:=⟨_,rfl⟩
 simp only [hz,ez] at hown
 have hdata:=fun (V:World) (hg:w.grownBy V none)=>Ydx (h.later hg) hds x.off
 have HOWN:=Lib.hid hown
 have HDATA:=Lib.hid hdata
 have hi2:=(Ydr hi).1
 have hf2:fstZ (pF x.off) S.bs=(i:Int):=by unfold fstZ;rw [hi]
 rw [hf2] at ez
 subst ez
 have hlb:S.bs.length≤1000:=by have:=hF.few;omega
 have hlL:∀ k,k<8→(S.L k).length≤1000:=fun k hk=>by have:=hF.lists k hk;omega
 have howner:=fun (V:World) (hg:w.grownBy V none)=>rowner14 (h.later hg) hlb hlL (fun g k=>Nat.lt_of_lt_of_le (hFb g k) hg.size) (Nat.le_trans hbw hg.size) hi2 hw (by omega) (k+1) (by omega)
 obtain ⟨S2,eS2⟩:∃ S2,mOwn S i (k+1)=S2:=⟨_,rfl⟩
 rw [eS2]
 simp only [eS2] at howner
 have hk1:((k+1:Nat):Int)=(k:Int)+1:=by omega
 rw [hk1] at howner
 have HOWNER:=Lib.hid howner
 have h0:¬ (k:Int)<0:=by omega
 have h7:¬ 7<(k:Int):=by omega
 clear h hown hdata howner eS2 hz hF hf2 hi hw hk1
 unfold sZ rZ at hW0
 go_enter Tryz.func53,Tryz.ntmps53
 go_wp2_with (first
  | (refine Yad rfl 36 _ rfl _ 0 rfl BX.st cs (fun j v hj=>by simpa using hj) _ Tryz.underlying36 rfl (by rw [Yai,hs0]) ?_)
  | (refine Yad rfl 41 _ rfl _ 0 rfl BX.op (opC x) (fun j v hj=>by simpa using hj) _ Tryz.underlying41 rfl Ybb ?_)
  | (go_at_call 83;(with_reducible refine (HOWN.out _ BX.gr).mono ?_);rintro e w1 ⟨rfl,hg1⟩;replace BX:=BX.later hg1;obtain ⟨d0,d1,d2,d3,d4,d5,d6,d7⟩:=Yal BX.op;rw [hk] at d0;rw [hto] at d6)
  | (go_at_call 54;(with_reducible refine (HDATA.out _ BX.gr).mono ?_);rintro e w3 ⟨da,dm,dk,rfl,hdw,hg3⟩;replace BX:=BX.later hg3;obtain ⟨d0,d1,d2,d3,d4,d5,d6,d7⟩:=Yal BX.op;rw [hk] at d0;rw [hto] at d6;have cl:=Yas BX.st (hsl k hk8);rw [hl] at cl)
  | (go_at_call 85;(with_reducible refine (HOWNER.out _ BX.gr).mono ?_);rintro e w5 ⟨v5,rfl,hs5,hg5⟩;replace BX:=BX.later hg5;obtain ⟨cs5,rfl,t0,t1,-,-⟩:=hs5.cells)
  | (refine Yae rfl 36 _ _ rfl _ 0 rfl rfl BX.rs (by rw [t0];exact Nat.le_refl _) (by rw [Yai,t0]) t1 ?_;intro W1 p1 g1;rw [Yau _ _ t0] at p1;obtain ⟨y0,y1,y2⟩:=Yaf (BX.res g1);obtain ⟨z0,z1,z2⟩:=Yak (BX.res g1)))
 obtain ⟨q1,q2,q3,q4⟩:=BX.done hs5 p1 g1 (e:=0) (p:=0) (q:=0)
 refine bodyPost_ret (Yav rfl _ rfl rfl q1 q2 Tryz.underlying36 rfl (by rw [Yai,t0]) Tryz.underlying46 rfl Ya0) rfl ?_
 exact ⟨_,rfl,q3,q4⟩
end
end
section
section
variable {w W w' W':World} {cs:Array Value} {F:Nat→Prop} {base all b:Nat} {v:Value} {S:MS}
theorem StIs.words (h:StIs w F base (.agg cs) all S):∃ da dn dc lD,cs[11]?=some (.slice da dn dc)∧OwnD w base base (.slice da dn dc) lD∧Yc6 lD=S.ds∧(∀ t∈lD,∀ g,t.2.1.ownBlock=some g→¬ F g) ∧
  ∀ w' ua um uc lD',w.grownBy w' none→OwnD w' base base (.slice ua um uc) lD'→(∀ t∈lD',∀ g,t.2.1.ownBlock=some g→¬ F g)→StIs w' F base (.agg (cs.setIfInBounds 11 (.slice ua um uc))) all { S with ds:=Yc6 lD' }:=by
 obtain ⟨la,n,c,va,ln,vc,da,dn,dc,na,nn,nc,lD,h1,h2,h3,h4,h5,h6,h7⟩:=h
 injection h1 with h1
 subst h1
 refine ⟨da,dn,dc,lD,rfl,h4,h5,h7,fun w' ua um uc lD' hg hd hf=>?_⟩
 exact ⟨la,n,c,va,ln,vc,ua,um,uc,na,nn,nc,lD',rfl,h2.later hg,fun k hk=>(h3 k hk).later hg,hd,rfl,h6.later hg,hf⟩
theorem StIs.entries (h:StIs w F base (.agg cs) all S):∃ na nn nc,cs[12]?=some (.slice na nn nc)∧OwnN w base 86 (.slice na nn nc) S.nm ∧
  ∀ w' ua um uc nm',w.grownBy w' none→OwnN w' base 86 (.slice ua um uc) nm'→StIs w' F base (.agg (cs.setIfInBounds 12 (.slice ua um uc))) all { S with nm:=nm' }:=by
 obtain ⟨la,n,c,va,ln,vc,da,dn,dc,na,nn,nc,lD,h1,h2,h3,h4,h5,h6,h7⟩:=h
 injection h1 with h1
 subst h1
 refine ⟨na,nn,nc,rfl,h6,fun w' ua um uc nm' hg hd=>?_⟩
 exact ⟨la,n,c,va,ln,vc,da,dn,dc,ua,um,uc,lD,rfl,h2.later hg,fun k hk=>(h3 k hk).later hg,h4.later hg,h5,hd,h7⟩
theorem StIs.lives (h:StIs w F base (.agg cs) all S) {k:Nat} (hk:k<8) (x:Bool):StIs w F base (.agg (cs.setIfInBounds (13+k) (.bool x))) all { S with lv:=oth S.lv k x }:=by
 obtain ⟨la,n,c,va,ln,vc,da,dn,dc,na,nn,nc,lD,h1,h2,h3,h4,h5,h6,h7⟩:=h
 injection h1 with h1
 subst h1
 rw [sC_live hk]
 exact ⟨la,n,c,va,ln,vc,da,dn,dc,na,nn,nc,lD,rfl,h2,h3,h4,h5,h6,h7⟩
theorem StIs.heap (h:StIs w F base (.agg cs) all S):∃ hs:Array Value,hs.size=10∧(∀ j v,hs[j]?=some v→cs[1+j]?=some v)∧HvF w F base (.agg hs) S.E S.bs S.L ∧
  ∀ w' hv' E' bs' L',w.grownBy w' none→HvF w' F base hv' E' bs' L'→∃ hs':Array Value,hv'=.agg hs'∧hs'.size=10∧hs'.all (·.oneCell')=true∧StIs w' F base (.agg (ovr cs 1 hs'.toList)) all { S with E:=E',bs:=bs',L:=L' }:=by
 obtain ⟨la,n,c,va,ln,vc,da,dn,dc,na,nn,nc,lD,h1,h2,h3,h4,h5,h6,h7⟩:=h
 injection h1 with h1
 subst h1
 refine ⟨hR S.E la n c va ln vc,rfl,hR_in,hv_of h2 h3,fun w' hv' E' bs' L' hg hv=>?_⟩
 obtain ⟨la',n',c',va',ln',vc',e,q1,q2⟩:=hv_form hv
 refine ⟨_,e,rfl,hR_one,?_⟩
 rw [sC_heap]
 exact ⟨la',n',c',va',ln',vc',da,dn,dc,na,nn,nc,lD,rfl,q1,q2,h4.later hg,h5,h6.later hg,h7⟩
theorem StIs.list (h:StIs w F base (.agg cs) all S) {k:Nat} (hk:k<8):∃ a n c,cs[3+k]?=some (.slice a n c)∧n=(S.L k).length∧KF w F base (.slice a n c) (S.L k):=by
 obtain ⟨la,n,c,va,ln,vc,da,dn,dc,na,nn,nc,lD,h1,h2,h3,h4,h5,h6,h7⟩:=h
 injection h1 with h1
 subst h1
 exact ⟨va k,ln k,vc k,Yer hk,own_len (h3 k hk).1,h3 k hk⟩
theorem StIs.one (h:StIs w F base (.agg cs) all S):cs.size=21∧cs.all (·.oneCell')=true∧cs[0]?=some (.int .u64 all)∧∀ k,k<8→cs[13+k]?=some (.bool (S.lv k)):=by
 obtain ⟨cs',e,h1⟩:=h.cells
 injection e with e
 subst e
 exact h1
end
end
end Go.Proofs.YtfhiljglfhekdaaGreat
