/-
  Texts of one layer, one behind the other: memory, contracts of the functions, and what follows of them.
  Conditions: as each theorem says.
-/
import Derived.Test.YtcbdbflgfhbikaaGreatLRef
set_option linter.unusedVariables false
set_option linter.unusedSimpArgs false
namespace Go.Proofs.YtcbdbflgfhbikaaGreat
open Go.RowKit
set_option maxRecDepth 100000
def cutOk (b:Blk) (k:Nat):Prop:=k % 16=0∧needOf b.n≤k∧k≤b.s
instance (b:Blk) (k:Nat):Decidable (cutOk b k):=by unfold cutOk;infer_instance
section
variable {w0 w:World} {T M:Nat} {R:Option Nat} {B D:Nat} {ws:List Nat} {l:List (Nat × Nat)} {E k:Nat} {bs A C:List Blk} {b:Blk} {L:Nat→List Nat} {f g h:Nat→Nat}
theorem need48 (n:Nat):needOf n % 16=0∧48≤needOf n∧n+40≤needOf n:=by
 unfold needOf
 split <;> omega
theorem cutk_sound (hS:SoundF f E (A++b::C) L) (hu:b.u=true) (hk:cutOk b k) (hr:k+48≤b.s)
  (hst:∀ x,x≠32→(x<b.off∨b.off+b.s+addC C≤x∨(b.off+8≤x∧x<b.off+k - 8))→(∀ y∈freesB A++freesB (rgtC C),x≠y+8∧x≠y+16)→g x=f x)
  (e1:g b.off=packN k true b.o) (e2:g (b.off+k - 8)=packN k true b.o) (e4:g (b.off+k)=packN (b.s - k+addC C) false 0) (e5:g (b.off+b.s+addC C - 8)=packN (b.s - k+addC C) false 0)
  (hH:Hung g ((freesB A++freesB (rgtC C))++[b.off+k])):SoundF g E (A++(⟨b.off,k,true,b.o,b.n⟩::freeB (b.off+k) (b.s - k+addC C)::rgtC C)) L:=by
 have hT:=hS.told
 have hb:=hT.is b (by simp)
 have hm:=may_bounds hb.may
 have hlen:=hb.len
 rw [if_pos hu] at hlen
 have hn:=need48 b.n
 obtain ⟨k1,k2,k3⟩:=hk
 have hlo:=hb.lo
 have hfar:∀ y∈freesB A++freesB (rgtC C),y∈freesB (A++b::C):=fun y hy=>by
  rw [frees_amid hu]
  rcases List.mem_append.1 hy with hy|hy
  ·exact List.mem_append_left _ hy
  ·refine List.mem_append_right _ ?_
   rcases right_cases C with ⟨e1,_⟩|⟨d,r,e0,_,e1,_⟩
   ·rw [e1] at hy;exact hy
   ·rw [e1] at hy;rw [e0,show d::r=[d]++r from rfl,freesB_append];exact List.mem_append_right _ hy
 have hout:∀ z∈A++b::C,z.u=true→∀ y∈freesB A++freesB (rgtC C),y+48≤z.off∨z.off+z.s≤y:=fun z hz hzu y hy=>by
  rcases hT.free_far hz (hfar y hy) with h4|h4
  ·rw [hzu] at h4;cases h4.2
  ·exact h4
 have hbo:=hout b (by simp) hu
 have hF:HeapF g E (A++(⟨b.off,k,true,b.o,b.n⟩::freeB (b.off+k) (b.s - k+addC C)::rgtC C)):=by
  refine cutk_heap hS.heap hu k1 (by omega) (by omega) hr ⟨b.o.toNat,by omega,by omega⟩ (fun x h1 h2 h3=>hst x h2 (by omega) h3) e1 e2 ?_ e4 e5 hH
  rw [hst (b.off+8) (by omega) (by omega) fun y hy=>by have:=hbo y hy;omega]
  exact hlen.1
 have hus:usedB (A++(⟨b.off,k,true,b.o,b.n⟩::freeB (b.off+k) (b.s - k+addC C)::rgtC C))=usedB (A++b::C):=by
  rw [usedB_append,usedB_append,show usedB (b::C)=b.off::usedB C by unfold usedB;simp [hu],show usedB ((⟨b.off,k,true,b.o,b.n⟩:Blk)::freeB (b.off+k) (b.s - k+addC C)::rgtC C)=b.off::usedB (rgtC C) by unfold usedB freeB;simp,(free_used (A:=A) (C:=C)).2]
 have hmg:=mg_append.1 (free_merged hS.merged (freeB (b.off+k) (b.s - k+addC C)))
 have hin:∀ z,z∈A∨z∈rgtC C→z∈A++b::C:=fun z hz=>by
  rcases hz with hz|hz
  ·simp [hz]
  ·rcases right_cases C with ⟨e1,_⟩|⟨d,r,e0,_,e1,_⟩
   ·rw [e1] at hz;simp [hz]
   ·rw [e1] at hz;rw [e0];simp [hz]
 refine hF.sound ?_ ?_ fun x hx hxu c hc=>?_
 ·refine mg_append.2 ⟨(mg_append.1 hS.merged).1,⟨.inl rfl,hmg.2.1⟩,fun p q hp hq=>.inr ?_⟩
  rw [List.head?_cons] at hq
  injection hq with hq
  rw [← hq]
 ·rw [hus]
  refine hS.ledg.congr (fun c hc=>?_) (fun x hx=>?_)
  ·have h1:=slotH_lt hc
   have h2:64≤slotH c:=by unfold slotH;omega
   exact hst _ (by omega) (by omega) fun y hy=>by
    have:=hS.freeL.on y (hfar y hy)
    omega
  ·obtain ⟨z,hz,hzu,rfl⟩:=usedB_mem.1 hx
   have h1:=hout z hz hzu
   have h2:=(hT.is z hz).size
   have h3:=(hT.is z hz).lo
   have h4:z.off=b.off∨z.off+z.s≤b.off∨b.off+b.s+addC C≤z.off:=by
    by_cases e:z.off=b.off
    ·exact .inl e
    ·rcases hT.sep hz (by simp) e with h5|h5
     ·exact .inr (.inl h5)
     ·refine .inr (.inr ?_)
      rcases right_cases C with ⟨e1,e2,_⟩|⟨d,r,e0,hd,e1,e2⟩
      ·omega
      ·have hdm:d∈A++b::C:=by rw [e0];simp
       have hne:z.off≠d.off:=fun e=>by
        have:=hT.one hz hdm e
        rw [this,hd] at hzu
        cases hzu
       have hdo:b.off+b.s=d.off:=by
        obtain ⟨m,_,e5,_,h6⟩:=told_append.1 hT
        rw [e0] at h6
        have:=h6.1
        have e5':b.off=m:=e5
        omega
       rcases hT.sep hz hdm hne with h7|h7
       ·have:=(hT.is z hz).size
        omega
       ·omega
   exact ⟨hst _ (by omega) (by omega) fun y hy=>by have:=h1 y hy;omega,hst _ (by omega) (by omega) fun y hy=>by have:=h1 y hy;omega⟩
 ·rcases List.mem_append.1 hx with h1|h1
  ·exact hS.whose x (hin x (.inl h1)) hxu c hc
  ·rcases List.mem_cons.1 h1 with h2|h2
   ·rw [h2]
    exact hS.whose b (by simp) hu c hc
   ·rcases List.mem_cons.1 h2 with h3|h3
    ·rw [h3] at hxu;cases hxu
    ·exact hS.whose x (hin x (.inr h3)) hxu c hc
theorem Txs.box {w':World} {o:Nat} {c:Array Value} {t:TypeId} (X:Txs w0 w T M R B D ws l) (hb:w.heap[o]?=some (.cells c t (0,0))) (h1:t≠96) (h2:t≠23) (h3:t≠166) (h4:t≠5) (hn:w0.heap.size≤o) (hg:w.grownBy w' (some o)):Txs w0 w' T M R B D ws l :=
 ⟨X.tx.turned (Turned.of_grown hg) (fun k hk=>by
  injection hk with hk
  subst hk
  exact ⟨X.tx.far hb h1 h2,fun e=>ne_type hb X.tx.seg.head h3 e,fun e=>ne_type hb X.tx.seg.data h4 e⟩),grown_step X.since hg (fun i hi=>.inl (by injection hi with hi;omega)),X.newT,X.newM,X.newR,X.newB,X.newD⟩
theorem Keep.box {w1 w2:World} {R1:Option Nat} {o:Nat} (K:Keep w R w1 R1) (hs:w1.grownBy w2 (some o)) (hw:w.heap.size≤o):Keep w R w2 R1 :=
 ⟨Nat.le_trans K.size hs.size,fun a=>⟨World.ownsRow.kept (K.row a).1 hs (.inr fun e=>by have:=(World.ownsRow.lt a.1 o e).2;omega),(K.row a).2⟩,fun a=>World.ownsRow.kept (K.puts a) hs (.inr fun e=>by have:=(World.ownsRow.lt a o e).2;omega),fun {b c t} q1 q2 q3=>by
  refine (hs.block b (lt_of_block (K.far q1 q2 q3)) fun e=>?_).trans (K.far q1 q2 q3)
  injection e with e
  have:=lt_of_block q1
  omega⟩
theorem relmay_any (b:Blk) (k:Nat) (hn:b.n+55<18446744073709551616) (w:World) :
  Calls Tryz.prog 68 #[.agg #[.int .u64 (b.off:Nat),.int .u64 (b.s:Nat),.bool b.u,.int .i64 b.o,.int .u64 (b.n:Nat)],.int .u64 k] w fun e w'=>e=.returned (.bool (decide (cutOk b k)))∧w.grownBy w' none:=by
 obtain ⟨x0,x1,x2,x3,x4⟩:=b
 have hnd:=fun w=>need_fits x4 hn w
 obtain ⟨N,hN⟩:∃ N,needOf x4=N:=⟨_,rfl⟩
 have hd:decide (cutOk ⟨x0,x1,x2,x3,x4⟩ k)=decide (k % 16=0∧N≤k∧k≤x1):=decide_eq_decide.2 (show (k % 16=0∧needOf x4≤k∧k≤x1)↔_ by rw [hN])
 rw [hd]
 rw [hN] at hnd
 have e16:(k:Int).tmod 16=((k % 16:Nat):Int):=by rw [Int.tmod_eq_emod_of_nonneg (by omega)];omega
 obtain ⟨r,hr⟩:∃ r,k % 16=r:=⟨_,rfl⟩
 rw [hr] at e16 ⊢
 clear hn hN hd hr
 by_cases h1:r=0
 ·subst h1
  by_cases h2:N≤k
  ·have h2':(N:Int)≤(k:Int):=by omega
   rw [show decide ((0:Nat)=0∧N≤k∧k≤x1)=decide (k≤x1) from decide_eq_decide.2 ⟨fun h=>h.2.2,fun h=>⟨rfl,h2,h⟩⟩]
   clear h2
   go_enter Tryz.func68,Tryz.ntmps68
   go_wp2_with (first|(go_at_call 29;(with_reducible refine (hnd _).mono ?_);rintro e w1 ⟨rfl,rfl⟩))
   go_ret
   exact ⟨rfl,World.grownBy_alloc _ _ _⟩
  ·have h2':¬ (N:Int)≤(k:Int):=by omega
   rw [decide_eq_false (show ¬ ((0:Nat)=0∧N≤k∧k≤x1) from fun h=>h2 h.2.1)]
   clear h2
   go_enter Tryz.func68,Tryz.ntmps68
   go_wp2_with (first|(go_at_call 29;(with_reducible refine (hnd _).mono ?_);rintro e w1 ⟨rfl,rfl⟩))
   go_ret
   exact ⟨rfl,World.grownBy_alloc _ _ _⟩
 ·have h1':¬ (r:Int)=0:=by omega
  have h1b:((r:Int) == 0)=false:=by simpa using h1
  rw [decide_eq_false (show ¬ (r=0∧N≤k∧k≤x1) from fun h=>h1 h.1)]
  clear h1
  go_enter Tryz.func68,Tryz.ntmps68
  go_wp2_with (first|(go_at_call 29;(with_reducible refine (hnd _).mono ?_);rintro e w1 ⟨rfl,rfl⟩))
  go_ret
  exact ⟨rfl,World.grownBy_alloc _ _ _⟩
theorem cut_bad {p O S N k:Nat} {o:Int}
  (hfind:Calls Tryz.prog 14 #[.pointer (some ⟨T,0,none⟩),.int .u64 p] w fun e w'=>e=.returned (.tuple #[.agg #[.int .u64 O,.int .u64 S,.bool true,.int .i64 o,.int .u64 N],.bool true])∧w.grownBy w' none)
  (hmay:∀ V,Calls Tryz.prog 68 #[.agg #[.int .u64 O,.int .u64 S,.bool true,.int .i64 o,.int .u64 N],.int .u64 k] V fun e w'=>e=.returned (.bool false)∧V.grownBy w' none) :
  Calls Tryz.prog 34 #[.pointer (some ⟨T,0,none⟩),.int .u64 p,.int .u64 k] w fun e w'=>e=.returned (.int .i64 1)∧w.grownBy w' none:=by
 go_enter Tryz.func34,Tryz.ntmps34
 go_wp2_with (first
  | (go_at_call 14;(with_reducible refine hfind.mono ?_);rintro e w1 ⟨rfl,hg1⟩;have ga:=World.grownBy_alloc w1 (.cells #[.int .u64 O,.int .u64 S,.bool true,.int .i64 o,.int .u64 N] 45) none)
  | (go_at_call 68;(with_reducible refine (hmay _).mono ?_);rintro e w2 ⟨rfl,hg2⟩))
 go_ret
 exact ⟨rfl,grown_trans hg1 (grown_trans ga hg2)⟩
theorem cut_few {p O S N k:Nat} {o:Int} (hks:k≤S∧S<k+48∧O+S<1000000)
  (hfind:Calls Tryz.prog 14 #[.pointer (some ⟨T,0,none⟩),.int .u64 p] w fun e w'=>e=.returned (.tuple #[.agg #[.int .u64 O,.int .u64 S,.bool true,.int .i64 o,.int .u64 N],.bool true])∧w.grownBy w' none)
  (hmay:∀ V,Calls Tryz.prog 68 #[.agg #[.int .u64 O,.int .u64 S,.bool true,.int .i64 o,.int .u64 N],.int .u64 k] V fun e w'=>e=.returned (.bool true)∧V.grownBy w' none) :
  Calls Tryz.prog 34 #[.pointer (some ⟨T,0,none⟩),.int .u64 p,.int .u64 k] w fun e w'=>e=.returned (.int .i64 0)∧w.grownBy w' none:=by
 obtain ⟨r,hr⟩:∃ r,S - k=r:=⟨_,rfl⟩
 have e1:IntKind.u64.wrap ((S:Int) - (k:Int))=(r:Nat):=by rw [IntKind.wrap_u64];omega
 have e2:IntKind.u64.wrap ((O:Int)+(k:Int))=((O+k:Nat):Int):=by rw [IntKind.wrap_u64];omega
 obtain ⟨q,hq⟩:∃ q,O+k=q:=⟨_,rfl⟩
 rw [hq] at e2
 have hr48:(r:Int)<48:=by omega
 clear hks hr hq
 go_enter Tryz.func34,Tryz.ntmps34
 go_wp2_with (first
  | (go_at_call 14;(with_reducible refine hfind.mono ?_);rintro e w1 ⟨rfl,hg1⟩;have ga:=World.grownBy_alloc w1 (.cells #[.int .u64 O,.int .u64 S,.bool true,.int .i64 o,.int .u64 N] 45) none;have ba:=heap_alloc_new' w1 (.cells #[.int .u64 O,.int .u64 S,.bool true,.int .i64 o,.int .u64 N] 45);obtain ⟨d0,d1,d2,d3,d4⟩:=five_cells ba;have HA:=Lib.hid ba;clear ba)
  | (go_at_call 68;(with_reducible refine (hmay _).mono ?_);rintro e w2 ⟨rfl,hg2⟩))
 obtain ⟨hb,ehb⟩:∃ hb,w1.heap.size=hb:=⟨_,rfl⟩
 have B2:=(hg2.block _ (lt_of_block HA.out) (by simp)).trans HA.out
 rw [ehb] at B2 ⊢
 have HG2:w2.grownBy w2.drew none:=grown_drew (grown_refl _ _)
 have B3:=(HG2.block _ (lt_of_block B2) (by simp)).trans B2
 obtain ⟨d0,d1,d2,d3,d4⟩:=five_cells B3
 clear B2
 go_region_held3 (fun w'=>w'.cell? ⟨hb,0,none⟩=some (.int .u64 O)∧w'.cell? ⟨hb,1,none⟩=some (.int .u64 S)) (go_keep) (fail)
 go_wp2
 go_ret
 exact ⟨rfl,grown_trans hg1 (grown_trans ga (grown_trans hg2 HG2))⟩
set_option maxHeartbeats 4000000 in
theorem cut_walk {G1 G2 G3 G4:List (Nat × Nat)→Prop} {p O S N k q sz Cc:Nat} {o:Int} (h:Txs w0 w T M R B D ws l) (hg:G1 l) (hn:k+48≤S∧O+k=q∧S - k+Cc=sz∧O+S+Cc<1000000)
  (hfind:Calls Tryz.prog 14 #[.pointer (some ⟨T,0,none⟩),.int .u64 p] w fun e w'=>e=.returned (.tuple #[.agg #[.int .u64 O,.int .u64 S,.bool true,.int .i64 o,.int .u64 N],.bool true])∧w.grownBy w' none)
  (hmay:∀ V,Calls Tryz.prog 68 #[.agg #[.int .u64 O,.int .u64 S,.bool true,.int .i64 o,.int .u64 N],.int .u64 k] V fun e w'=>e=.returned (.bool true)∧V.grownBy w' none)
  (hnb:∀ V R1 l1,Txs w0 V T M R1 B D ws l1→G1 l1→Calls Tryz.prog 69 #[.pointer (some ⟨T,0,none⟩),.int .u64 O] V fun e w'=>∃ la n c lb ob tb,e=.returned (.func (.func 119) #[] #[.pointer (some ⟨lb,0,none⟩),.pointer (some ⟨ob,0,none⟩),.pointer (some ⟨tb,0,none⟩)])∧Nb w' T R1 O bs la n c lb ob tb∧V.grownBy w' none)
  (hta:∀ V R1 l1 la n c lb ob tb,Txs w0 V T M R1 B D ws l1→G1 l1→Nb V T R1 O bs la n c lb ob tb→Calls Tryz.prog 119 #[.func (.func 70) #[] #[],.pointer (some ⟨lb,0,none⟩),.pointer (some ⟨ob,0,none⟩),.pointer (some ⟨tb,0,none⟩)] V fun e w'=>e=.returned (.int .u64 Cc)∧∃ R' l',Txs w0 w' T M R' B D ws l'∧G2 l'∧Keep V R1 w' R')
  (hwr:∀ V R1 l1,Txs w0 V T M R1 B D ws l1→G2 l1→Calls Tryz.prog 55 #[.pointer (some ⟨T,0,none⟩),.int .u64 O,.agg #[.int .u64 k,.bool true,.int .i64 o]] V fun e w'=>e=.returned (.int .i64 0)∧∃ R' l',Txs w0 w' T M R' B D ws l'∧G3 l'∧Keep V R1 w' R')
  (hsp:∀ V R1 l1,Txs w0 V T M R1 B D ws l1→G3 l1→Calls Tryz.prog 71 #[.pointer (some ⟨T,0,none⟩),.int .u64 q,.int .u64 sz] V fun e w'=>e=.returned (.tuple #[])∧∃ R' l',Txs w0 w' T M R' B D ws l'∧G4 l'∧Keep V R1 w' R') :
  Calls Tryz.prog 34 #[.pointer (some ⟨T,0,none⟩),.int .u64 p,.int .u64 k] w fun e w'=>e=.returned (.int .i64 0)∧∃ R' l',Txs w0 w' T M R' B D ws l'∧G4 l'∧Keep w R w' R':=by
 obtain ⟨r,hr⟩:∃ r,S - k=r:=⟨_,rfl⟩
 have e1:IntKind.u64.wrap ((S:Int) - (k:Int))=(r:Nat):=by rw [IntKind.wrap_u64];omega
 have e2:IntKind.u64.wrap ((O:Int)+(k:Int))=(q:Nat):=by rw [IntKind.wrap_u64];omega
 have e3:IntKind.u64.wrap ((r:Int)+(Cc:Int))=(sz:Nat):=by rw [IntKind.wrap_u64];omega
 have hr48:¬ (r:Int)<48:=by omega
 have HNB:=Lib.hid hnb
 have HTA:=Lib.hid hta
 have HWR:=Lib.hid hwr
 have HSP:=Lib.hid hsp
 have HX:=Lib.hid h
 have HG:=Lib.hid hg
 clear hnb hta hwr hsp h hn hr hg
 go_enter Tryz.func34,Tryz.ntmps34
 go_wp2_with (first
  | (go_at_call 14;(with_reducible refine hfind.mono ?_);rintro e w1 ⟨rfl,hg1⟩;have ga:=World.grownBy_alloc w1 (.cells #[.int .u64 O,.int .u64 S,.bool true,.int .i64 o,.int .u64 N] 45) none;have ba:=heap_alloc_new' w1 (.cells #[.int .u64 O,.int .u64 S,.bool true,.int .i64 o,.int .u64 N] 45);obtain ⟨d0,d1,d2,d3,d4⟩:=five_cells ba;have HA:=Lib.hid ba;clear ba)
  | (go_at_call 68;(with_reducible refine (hmay _).mono ?_);rintro e w2 ⟨rfl,hg2⟩))
 obtain ⟨hb,ehb⟩:∃ hb,w1.heap.size=hb:=⟨_,rfl⟩
 have B2:=(hg2.block _ (lt_of_block HA.out) (by simp)).trans HA.out
 rw [ehb] at B2 ⊢
 have HG2:w2.grownBy w2.drew none:=grown_drew (grown_refl _ _)
 have B3:=(HG2.block _ (lt_of_block B2) (by simp)).trans B2
 obtain ⟨d0,d1,d2,d3,d4⟩:=five_cells B3
 clear B2
 go_region_held3 (fun w'=>w'.cell? ⟨hb,0,none⟩=some (.int .u64 O)∧w'.cell? ⟨hb,1,none⟩=some (.int .u64 S)) (go_keep) (fail)
 have G3:=grown_trans hg1 (grown_trans ga (grown_trans hg2 HG2))
 have X2:=HX.out.later G3
 have hn2:=HNB.out _ _ _ X2 HG.out
 have hwb:w.heap.size≤hb:=by rw [← ehb];exact hg1.size
 have hw0b:w0.heap.size≤hb:=by have:=HX.out.since.size;omega
 have HA2:=Lib.hid B3
 clear B3
 go_wp2_with (first
  | (go_at_call 69;(with_reducible refine hn2.mono ?_);rintro e w3 ⟨la,n,c,lb,ob,tb,rfl,N3,hg3⟩;have b3:=(hg3.block _ (lt_of_block HA2.out) (by simp)).trans HA2.out;obtain ⟨d0,d1,d2,d3,d4⟩:=five_cells b3;have HA3:=Lib.hid b3;clear b3;have X3:=X2.later hg3;have K3:Keep w R w3 R:=Keep.of_grown (grown_trans G3 hg3);have ht3:=HTA.out _ _ _ _ _ _ _ _ _ X3 HG.out N3)
  | (go_at_call 119;(with_reducible refine ht3.mono ?_);rintro e w4 ⟨rfl,R4,l4,X4,G4,kp4⟩;have b4:=kp4.far HA3.out (by decide) (by decide);obtain ⟨d0,d1,d2,d3,d4⟩:=five_cells b4;obtain ⟨f0,f1,f2,f3,f4⟩:=five_frozen b4;have gs:=grown_set w4 hb 1 (.int .u64 k);have X5:=X4.box b4 (by decide) (by decide) (by decide) (by decide) hw0b gs;have K5:=(K3.trans kp4).box gs hwb;have hw5:=HWR.out _ _ _ X5 G4;clear b4)
  | (go_at_call 55;(with_reducible refine hw5.mono ?_);rintro e w6 ⟨rfl,R6,l6,X6,G6,kp6⟩;have hs6:=HSP.out _ _ _ X6 G6)
  | (go_at_call 71;(with_reducible refine hs6.mono ?_);rintro e w7 ⟨rfl,R7,l7,X7,G7,kp7⟩))
 go_ret
 exact ⟨rfl,R7,l7,X7,G7,K5.trans (kp6.trans kp7)⟩
theorem hcut_ok (h:Txs w0 w T M R B D ws l) (hws:8*ws.length=4800) (hS:SoundF (txSee ws l) E (A++b::C) L) (hu:b.u=true) (hk:cutOk b k) (hr:k+48≤b.s)
  (hfind:Calls Tryz.prog 14 #[.pointer (some ⟨T,0,none⟩),.int .u64 (b.off+32:Nat)] w fun e w'=>e=.returned (.tuple #[b.val,.bool true])∧w.grownBy w' none) :
  Calls Tryz.prog 34 #[.pointer (some ⟨T,0,none⟩),.int .u64 (b.off+32:Nat),.int .u64 k] w fun e w'=>e=.returned (.int .i64 0)∧∃ R' l',Txs w0 w' T M R' B D ws l'∧(SoundF (txSee ws l') E (A++(⟨b.off,k,true,b.o,b.n⟩::freeB (b.off+k) (b.s - k+addC C)::rgtC C)) L∧(∀ x,b.off+8≤x→x<b.off+k - 8→txSee ws l' x=txSee ws l x)∧Held (txSee ws l) (txSee ws l') (A++C))∧Keep w R w' R':=by
 have hT:=hS.told
 have hb:=hT.is b (by simp)
 have hm:=may_bounds hb.may
 have hal:=free_al hT
 have hE:=hS.low
 have hlo:=hb.lo
 have hn:=need48 b.n
 have hlen:=hb.len
 rw [if_pos hu] at hlen
 have hF:=hS.heap
 have hbal:=hb.al
 obtain ⟨k1,k2,k3⟩:=hk
 have hmay:=relmay_any b k (by omega)
 rw [decide_eq_true (show cutOk b k from ⟨k1,k2,k3⟩),hu] at hmay
 have hfar:∀ y∈freesB A++freesB C,3776≤y∧(y+48≤b.off∨b.off+b.s≤y):=fun y hy=>by
  rw [← frees_amid hu] at hy
  have:=hF.freeL.on y hy
  rcases hT.free_far (x:=b) (by simp) hy with h4|h4
  ·rw [hu] at h4;cases h4.2
  ·omega
 have hsub:∀ y∈freesB A++freesB (rgtC C),y∈freesB A++freesB C:=fun y hy=>by
  rcases List.mem_append.1 hy with hy|hy
  ·exact List.mem_append_left _ hy
  ·refine List.mem_append_right _ ?_
   rcases right_cases C with ⟨e1,_⟩|⟨d,r,e0,_,e1,_⟩
   ·rw [e1] at hy;exact hy
   ·rw [e1] at hy;rw [e0,show d::r=[d]++r from rfl,freesB_append];exact List.mem_append_right _ hy
 have hfar2:∀ y∈freesB A++freesB (rgtC C),3776≤y∧(y+48≤b.off∨b.off+b.s+addC C≤y):=fun y hy=>by
  refine ⟨(hfar y (hsub y hy)).1,?_⟩
  rcases List.mem_append.1 hy with hy|hy
  ·obtain ⟨z,hz,hzu,rfl⟩:=freesB_mem.1 hy
   obtain ⟨m,hA,e,_,_⟩:=told_append.1 hT
   have:=(hA.within z hz).2
   have:=(hA.is z hz).size
   have e':b.off=m:=e
   omega
  ·obtain ⟨z,hz,hzu,rfl⟩:=freesB_mem.1 hy
   obtain ⟨X,_,_,h2,_⟩:=free_told hT
   have:=(h2.within z hz).1
   omega
 have hin:∀ y∈freesB A++freesB C,y∈freesB A++freesB (rgtC C)∨(b.off+b.s≤y∧y+48≤b.off+b.s+addC C):=fun y hy=>by
  rcases List.mem_append.1 hy with hy|hy
  ·exact .inl (List.mem_append_left _ hy)
  ·rcases right_cases C with ⟨e1,_⟩|⟨c,r,e0,hc,e1,e2⟩
   ·exact .inl (by rw [e1];exact List.mem_append_right _ hy)
   ·rw [e0,show c::r=[c]++r from rfl,freesB_append] at hy
    rcases List.mem_append.1 hy with hy|hy
    ·have ey:y=c.off:=by
      unfold freesB at hy
      simpa [hc] using hy
     have hcs:=(hT.is c (by rw [e0];simp)).size
     have hco:b.off+b.s=c.off:=by
      obtain ⟨m,_,e5,_,h6⟩:=told_append.1 hT
      rw [e0] at h6
      have:=h6.1
      have e5':b.off=m:=e5
      omega
     exact .inr (by omega)
    ·exact .inl (by rw [e1];exact List.mem_append_right _ hy)
 refine cut_walk (bs:=A++b::C) (O:=b.off) (S:=b.s) (N:=b.n) (Cc:=addC C) (q:=b.off+k) (sz:=b.s - k+addC C) (o:=b.o)
  (G1:=fun l1=>l1=l)
  (G2:=fun l2=>Kept (freesB A++freesB C) (txSee ws l) (txSee ws l2)∧Hung (txSee ws l2) (freesB A++freesB (rgtC C)))
  (G3:=fun l3=>∃ g,Kept (freesB A++freesB C) (txSee ws l) g∧(∀ x,txSee ws l3 x=if x=b.off∨x=b.off+k - 8 then packN k true b.o else g x)∧Hung (txSee ws l3) (freesB A++freesB (rgtC C)))
  (G4:=fun l4=>SoundF (txSee ws l4) E (A++(⟨b.off,k,true,b.o,b.n⟩::freeB (b.off+k) (b.s - k+addC C)::rgtC C)) L∧(∀ x,b.off+8≤x→x<b.off+k - 8→txSee ws l4 x=txSee ws l x)∧Held (txSee ws l) (txSee ws l4) (A++C))
  h rfl ⟨hr,rfl,rfl,by omega⟩ ?find hmay ?nb ?ta ?wr ?sp
 case find =>
  have:=hfind
  unfold Blk.val at this
  rw [hu] at this
  exact this
 case nb =>
  rintro V R1 l1 X rfl
  exact neighbours_any X (hF.heapW hws) b.off
 case ta =>
  rintro V R1 l1 la n c lb ob tb X rfl hN
  have hH:=hF.hung
  rw [frees_amid hu] at hH
  exact take_behind X hws hT hE hu hH hN
 case wr =>
  rintro V R1 l1 X ⟨g1,g2⟩
  have ht:txSee ws l1 16=E:=(g1 16 (by decide) fun y hy=>by have:=hfar y hy;omega).trans hF.top
  refine (hwrite X hws (s:=k) (u:=true) (o:=b.o) (off:=b.off) ⟨k1,by omega,by omega,hm.2.2.2.1,hm.2.2.2.2.1,.inl rfl⟩ (by rw [ht];unfold inP;omega) (by omega)).mono ?_
  rintro e w' ⟨rfl,R',l',X',e1,K⟩
  refine ⟨rfl,R',l',X',⟨_,g1,e1,g2.congr (by rw [e1,if_neg (by omega)]) fun y hy=>?_⟩,K⟩
  have:=hfar2 y hy
  rw [e1,e1,e1,if_neg (by omega),if_neg (by omega),if_neg (by omega)]
  exact ⟨rfl,rfl,rfl⟩
 case sp =>
  rintro V R1 l1 X ⟨g,g1,g2,g3⟩
  have ht:txSee ws l1 16=E:=by
   rw [g2,if_neg (by omega)]
   exact (g1 16 (by decide) fun y hy=>by have:=hfar y hy;omega).trans hF.top
  refine (rspare_any X hws g3 (s:=b.s - k+addC C) (off:=b.off+k) (may_false (by omega) (by omega) (by omega)) (by rw [ht];unfold inP;omega) (by omega) fun y hy=>by have:=hfar2 y hy;omega).mono ?_
  rintro e w' ⟨rfl,R',l',X',H',S',⟨p1,p2⟩,K⟩
  have hst:∀ x,x≠32→(x<b.off∨b.off+b.s+addC C≤x∨(b.off+8≤x∧x<b.off+k - 8))→(∀ y∈freesB A++freesB (rgtC C),x≠y+8∧x≠y+16)→txSee ws l' x=txSee ws l x:=fun x h1 h2 h3=>by
   rw [S' x (by omega) h1 h3,g2,if_neg (by omega)]
   refine g1 x h1 fun y hy=>?_
   rcases hin y hy with h4|h4
   ·exact h3 y h4
   ·omega
  have hheld:Held (txSee ws l) (txSee ws l') (A++C):=fun x hx hxu q h1 h2=>by
   have hx':x∈A++b::C:=by
    rcases List.mem_append.1 hx with h3|h3
    ·exact List.mem_append_left _ h3
    ·exact List.mem_append_right _ (List.mem_cons_of_mem _ h3)
   have hxl:=(hT.is x hx').lo
   have hxs:=(hT.is x hx').size
   have hr:x.off+x.s≤b.off∨b.off+b.s+addC C≤x.off:=by
    obtain ⟨m,hA,e,_,hC⟩:=told_append.1 hT
    have e':b.off=m:=e
    rcases List.mem_append.1 hx with h3|h3
    ·exact .inl (by have:=(hA.within x h3).2;omega)
    ·right
     obtain ⟨Y,_,_,t2,_⟩:=free_told hT
     have h4:x∈rgtC C:=by
      rcases right_cases C with ⟨e1,_⟩|⟨d,r,e0,hd,e1,_⟩
      ·rw [e1];exact h3
      ·rw [e1]
       rw [e0] at h3
       rcases List.mem_cons.1 h3 with h5|h5
       ·rw [h5,hd] at hxu;cases hxu
       ·exact h5
     exact (t2.within x h4).1
   refine hst q (by omega) (by omega) fun y hy=>?_
   have hy':y∈freesB (A++b::C):=by
    rw [frees_amid hu]
    exact hsub y hy
   rcases hT.free_far hx' hy' with h6|h6
   ·rw [hxu] at h6;exact absurd h6.2 (by decide)
   ·omega
  refine ⟨rfl,R',l',X',⟨cutk_sound hS hu ⟨k1,k2,k3⟩ hr hst ?_ ?_ p1 ?_ H',fun x h1 h2=>hst x (by omega) (.inr (.inr ⟨h1,h2⟩)) fun y hy=>by have:=hfar2 y hy;omega,hheld⟩,K⟩
  ·rw [S' b.off (by omega) (by omega) fun y hy=>by have:=hfar2 y hy;omega,g2,if_pos (.inl rfl)]
  ·rw [S' _ (by omega) (by omega) fun y hy=>by have:=hfar2 y hy;omega,g2,if_pos (.inr rfl)]
  ·rw [show b.off+b.s+addC C - 8=b.off+k+(b.s - k+addC C) - 8 by omega]
   exact p2
end
end Go.Proofs.YtcbdbflgfhbikaaGreat
