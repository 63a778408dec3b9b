/-
  Texts of one layer, one behind the other: memory, contracts of the functions, and what follows of them.
  Conditions: as each theorem says.
-/
import Derived.Test.YtcbdbflgfhbikaaGreatRelH
import Derived.Test.YtcbdbflgfhbikaaGreatRelM
import Derived.Laws.StructEq
import Derived.Test.YtcbdbflgfhbikaaGreatLCal
import Derived.Test.YtcbdbflgfhbikaaGreatLTaa
import Derived.Test.YtcbdbflgfhbikaaGreatLPha
import Derived.Test.YtcbdbflgfhbikaaGreatLPhc
set_option linter.unusedVariables false
set_option linter.unusedSimpArgs false
namespace Go.Proofs.YtcbdbflgfhbikaaGreat
open Go.RowKit
set_option maxRecDepth 100000
def frE (bs:List Blk) (p:Nat):Nat:=match fstN (pF p) bs with|some _=>0|none=>4
def frB (bs:List Blk) (p:Nat):List Blk:=match fstN (pF p) bs with|some i=>joinB (bs.take i++freeB (gO bs i) (gS bs i)::bs.drop (i+1))|none=>bs
def frL (bs:List Blk) (L:Nat→List Nat) (p:Nat):Nat→List Nat:=match fstN (pF p) bs with|some i=>lstB L (bs.getD i default)|none=>L
def ctE (bs:List Blk) (p k:Nat):Nat:=match fstN (pF p) bs with|some i=>if cutOk (bs.getD i default) k then 0 else 1|none=>4
def ctB (bs:List Blk) (p k:Nat):List Blk:=match fstN (pF p) bs with
 | some i=>if cutOk (bs.getD i default) k∧k+48≤gS bs i then joinB (bs.take i++(⟨gO bs i,k,gU bs i,gW bs i,gN bs i⟩::freeB (gO bs i+k) (gS bs i - k)::bs.drop (i+1))) else bs
 | none=>bs
theorem bs_amid {bs:List Blk} {i:Nat} (hi:i<bs.length):bs=bs.take i++bs.getD i default::bs.drop (i+1):=by
 have h1:bs.getD i default=bs[i]:=by rw [List.getD_eq_getElem?_getD,List.getElem?_eq_getElem hi];rfl
 rw [h1,← List.drop_eq_getElem_cons hi,List.take_append_drop]
theorem pF_some {p:Nat} {bs:List Blk} {i:Nat} (h:fstN (pF p) bs=some i):i<bs.length∧(bs.getD i default).u=true∧((bs.getD i default).off+32) % 18446744073709551616=p:=by
 obtain ⟨h1,h2⟩:=fstN_some h
 unfold pF at h2
 simp only [Bool.and_eq_true,decide_eq_true_eq] at h2
 exact ⟨h1,h2.1,h2.2⟩
theorem bes_some {p:Nat} {bs:List Blk} {i:Nat} (h:fstN (pF p) bs=some i):besN (pF p) bs 0=some (bs.getD i default)∧besB (pF p) bs 0=bs.getD i default:=by
 have hi:=(fstN_some h).1
 have e:besN (pF p) bs 0=some (bs.getD i default):=by
  unfold besN
  rw [h]
  dsimp only
  rw [if_pos (by omega),show ((i:Int)+0).toNat=i by omega]
 exact ⟨e,by unfold besB;rw [e];rfl⟩
theorem bes_none {p:Nat} {bs:List Blk} (h:fstN (pF p) bs=none):besN (pF p) bs 0=none∧besB (pF p) bs 0=Blk.none:=by
 have e:besN (pF p) bs 0=none:=by unfold besN;rw [h]
 exact ⟨e,by unfold besB;rw [e];rfl⟩
def HX (w0 w:World) (T:Nat) (R:Option Nat) (ws:List Nat) (E:Nat) (bs:List Blk) (L:Nat→List Nat) (x v:Nat):Prop :=
 8*ws.length=4800∧∃ M B D l,Txs w0 w T M R B D ws l∧SoundF (txSee ws l) E bs L∧txSee ws l x=v
section
variable {w0 w w':World} {T:Nat} {R:Option Nat} {ws:List Nat} {E p k base x y:Nat} {bs:List Blk} {L:Nat→List Nat} {v:Value}
theorem HX.heap (h:HX w0 w T R ws E bs L x y):HW w0 w T R ws E bs L:=by
 obtain ⟨h0,M,B,D,l,h1,h2,_⟩:=h
 exact ⟨h0,M,B,D,l,h1,h2⟩
theorem HW.word (h:HW w0 w T R ws E bs L) (x:Nat):∃ y,y<18446744073709551616∧HX w0 w T R ws E bs L x y:=by
 obtain ⟨h0,M,B,D,l,h1,h2⟩:=h
 exact ⟨_,txSee_lt h1.tx.seg.words h1.tx.ok x,h0,M,B,D,l,h1,h2,rfl⟩
theorem HX.later (h:HX w0 w T R ws E bs L x y) (hg:w.grownBy w' none):HX w0 w' T R ws E bs L x y:=by
 obtain ⟨h0,M,B,D,l,h1,h2,h3⟩:=h
 exact ⟨h0,M,B,D,l,h1.later hg,h2,h3⟩
theorem free_bad {q:Option Addr} (hfind:Calls Tryz.prog 14 #[.pointer q,.int .u64 p] w fun e w'=>e=.returned (.tuple #[.agg #[.int .u64 0,.int .u64 0,.bool false,.int .i64 0,.int .u64 0],.bool false])∧w.grownBy w' none) :
  Calls Tryz.prog 65 #[.pointer q,.int .u64 p] w fun e w'=>e=.returned (.int .i64 4)∧w.grownBy w' none:=by
 go_enter Tryz.func65,Tryz.ntmps65
 go_wp2_with (first|(go_at_call 14;(with_reducible refine hfind.mono ?_);rintro e w1 ⟨rfl,hg1⟩))
 go_ret
 exact ⟨rfl,grown_trans hg1 (World.grownBy_alloc _ _ _)⟩
theorem cut_bad4 {q:Option Addr} (hfind:Calls Tryz.prog 14 #[.pointer q,.int .u64 p] w fun e w'=>e=.returned (.tuple #[.agg #[.int .u64 0,.int .u64 0,.bool false,.int .i64 0,.int .u64 0],.bool false])∧w.grownBy w' none) (k:Nat) :
  Calls Tryz.prog 34 #[.pointer q,.int .u64 p,.int .u64 k] w fun e w'=>e=.returned (.int .i64 4)∧w.grownBy w' none:=by
 go_enter Tryz.func34,Tryz.ntmps34
 go_wp2_with (first|(go_at_call 14;(with_reducible refine hfind.mono ?_);rintro e w1 ⟨rfl,hg1⟩))
 go_ret
 exact ⟨rfl,grown_trans hg1 (World.grownBy_alloc _ _ _)⟩
theorem hw_find_none (h:HW w0 w T R ws E bs L) (hf:fstN (pF p) bs=none) :
  Calls Tryz.prog 14 #[.pointer (some ⟨T,0,none⟩),.int .u64 p] w fun e w'=>e=.returned (.tuple #[.agg #[.int .u64 0,.int .u64 0,.bool false,.int .i64 0,.int .u64 0],.bool false])∧w.grownBy w' none:=by
 have:=hw_find h p
 rw [(bes_none hf).1,(bes_none hf).2] at this
 exact this
theorem hw_find_some (h:HW w0 w T R ws E bs L) {i:Nat} (hf:fstN (pF p) bs=some i) :
  Calls Tryz.prog 14 #[.pointer (some ⟨T,0,none⟩),.int .u64 p] w fun e w'=>e=.returned (.tuple #[(bs.getD i default).val,.bool true])∧w.grownBy w' none:=by
 have:=hw_find h p
 rw [(bes_some hf).1,(bes_some hf).2] at this
 exact this
theorem SoundF.pay {f:Nat→Nat} (h:SoundF f E bs L) {i:Nat} (hf:fstN (pF p) bs=some i):p=(bs.getD i default).off+32:=by
 obtain ⟨h1,h2,h3⟩:=pF_some hf
 have hb:=h.told.is _ (getB_mem h1)
 have:=hb.hi
 have:=h.low
 omega
theorem SoundF.frees0 {f:Nat→Nat} (h:SoundF f E bs L):∀ b∈bs,b.u=false→b.o=0∧b.n=0:=fun b hb hu=>by
 have hi:=h.told.is b hb
 have hl:=hi.len
 rw [if_neg (by rw [hu];decide)] at hl
 exact ⟨(may_bounds hi.may).2.2.2.2.2 hu,hl⟩
theorem fr_code (h:HW w0 w T R ws E bs L) (p:Nat) :
  Calls Tryz.prog 65 #[.pointer (some ⟨T,0,none⟩),.int .u64 p] w fun e w'=>e=.returned (.int .i64 (frE bs p:Nat))∧∃ R',HW w0 w' T R' ws E (frB bs p) (frL bs L p)∧Keep w R w' R':=by
 unfold frE frB frL
 cases hf:fstN (pF p) bs with
 | none =>
  refine (free_bad (hw_find_none h hf)).mono ?_
  rintro e w' ⟨rfl,hg⟩
  exact ⟨rfl,R,h.later hg,Keep.of_grown hg⟩
 | some i =>
  obtain ⟨hi,hu,_⟩:=pF_some hf
  have hfind:=hw_find_some h hf
  obtain ⟨h0,M,B,D,l,X,hS⟩:=h
  have hp:=hS.pay hf
  have hz:=hS.frees0
  have hbs:=bs_amid hi
  dsimp only
  show Calls Tryz.prog 65 #[.pointer (some ⟨T,0,none⟩),.int .u64 p] w fun e w'=>e=.returned (.int .i64 0)∧∃ R',HW w0 w' T R' ws E (joinB (bs.take i++freeB (bs.getD i default).off (bs.getD i default).s::bs.drop (i+1))) (lstB L (bs.getD i default))∧Keep w R w' R'
  obtain ⟨b,hb⟩:∃ b,bs.getD i default=b:=⟨_,rfl⟩
  obtain ⟨A,hA⟩:∃ A,bs.take i=A:=⟨_,rfl⟩
  obtain ⟨C,hC⟩:∃ C,bs.drop (i+1)=C:=⟨_,rfl⟩
  rw [hb,hA,hC] at hbs
  rw [hb] at hu hp hfind
  rw [hb,hA,hC]
  subst hp
  rw [hbs] at hS hz
  refine (hfree_ok X h0 hS hu hfind).mono ?_
  rintro e w' ⟨rfl,R',l',X',⟨hS',_⟩,K⟩
  rw [join_free hS.merged fun x hx=>hz x (by simp [hx])]
  exact ⟨rfl,R',⟨h0,M,B,D,l',X',hS'⟩,K⟩
theorem HvK.of_rows {V:World} {R0:Option Nat} {v':Value} {bs':List Blk} {L':Nat→List Nat} (hv:HvK V R0 base v E bs L) (h1:HvIs w' base v' E bs' L') (hrw:RowsOf v v' V.heap.size) (hR:∀ g,R0=some g→g<V.heap.size):HvK w' R0 base v' E bs' L':=by
 obtain ⟨b0,vs0,e0,o0,k0⟩:=hv
 obtain ⟨b,vs,q1,q2,q3⟩:=h1.is
 obtain ⟨b',vs',q4,q5⟩:=hrw E b0 vs0 e0
 have q6:=(heapV_inj (q1.symm.trans q4)).2
 refine ⟨b,vs,q1,q2,fun c hc=>⟨q3 c hc,fun g hg e=>?_⟩⟩
 rw [q6 c hc] at hg
 rcases q5 c hc with h7|h7
 ·rw [h7] at hg
  exact (k0 c hc).2 g hg e
 ·have:=h7 g hg
  have:=hR g e
  omega
theorem fr_fine {V:World} {R0:Option Nat} {K:Nat} (h:Fine K E bs L) (hK:K≤800) (hR:∀ g,R0=some g→g<V.heap.size) (hv:HvK V R0 base v E bs L) (hb:base≤V.heap.size) (p:Nat) :
  Calls Tryz.prog 37 #[v,.int .u64 p] V fun e w'=>∃ v',e=.returned (.tuple #[v',.int .i64 (frE bs p:Nat)])∧HvK w' R0 base v' E (frB bs p) (frL bs L p)∧V.grownBy w' none:=by
 have h6:=h.few
 have hbd:=h.bounds
 have hl:∀ c,c<8→(L c).length≤1000:=fun c hc=>by have:=h.lists c hc;omega
 unfold frE frB frL
 cases hf:fstN (pF p) bs with
 | none =>
  refine (rfree11_none hv.is (by omega) hf).mono ?_
  rintro e w' ⟨rfl,hg⟩
  exact ⟨v,rfl,hv.later hg,hg⟩
 | some i =>
  obtain ⟨hi,hu,_⟩:=pF_some hf
  have hm:=may_bounds (h.is _ (getB_mem hi)).1
  have hbs:=bs_amid hi
  dsimp only
  show Calls Tryz.prog 37 #[v,.int .u64 p] V fun e w'=>∃ v',e=.returned (.tuple #[v',.int .i64 0])∧HvK w' R0 base v' E (joinB (bs.take i++freeB (bs.getD i default).off (bs.getD i default).s::bs.drop (i+1))) (lstB L (bs.getD i default))∧V.grownBy w' none
  have hti:(bs.take i).length=i:=by rw [List.length_take];omega
  have hv':=hv.is
  obtain ⟨b,hb'⟩:∃ b,bs.getD i default=b:=⟨_,rfl⟩
  obtain ⟨A,hA⟩:∃ A,bs.take i=A:=⟨_,rfl⟩
  obtain ⟨C,hC⟩:∃ C,bs.drop (i+1)=C:=⟨_,rfl⟩
  rw [hb',hA,hC] at hbs
  rw [hb'] at hm
  rw [hA] at hti
  rw [hb',hA,hC]
  rw [hbs] at h6 hbd hv' hf
  rw [← hti] at hf
  refine (rfree11_ok hv' hb (by omega) hbd hf hl ⟨hm.2.2.2.1,hm.2.2.2.2.1⟩).mono ?_
  rintro e w' ⟨v',rfl,h1,hrw,hg⟩
  exact ⟨v',rfl,hv.of_rows h1 hrw hR,hg⟩
theorem fr_ref {V:World} {R0:Option Nat} (h:HW w0 w T R ws E bs L) (hR:∀ g,R0=some g→g<V.heap.size) (hv:HvK V R0 base v E bs L) (hb:base≤V.heap.size) (p:Nat) :
  Calls Tryz.prog 37 #[v,.int .u64 p] V fun e w'=>∃ v',e=.returned (.tuple #[v',.int .i64 (frE bs p:Nat)])∧HvK w' R0 base v' E (frB bs p) (frL bs L p)∧V.grownBy w' none:=fr_fine h.snd.fine (by decide) hR hv hb p
theorem ct_hx (h:HX w0 w T R ws E bs L x y) (hx:∀ i,fstN (pF p) bs=some i→x=gO bs i+32) (k:Nat) :
  Calls Tryz.prog 34 #[.pointer (some ⟨T,0,none⟩),.int .u64 p,.int .u64 k] w fun e w'=>e=.returned (.int .i64 (ctE bs p k:Nat))∧∃ R',HX w0 w' T R' ws E (ctB bs p k) L x y∧Keep w R w' R':=by
 unfold ctE ctB
 cases hf:fstN (pF p) bs with
 | none =>
  refine (cut_bad4 (hw_find_none h.heap hf) k).mono ?_
  rintro e w' ⟨rfl,hg⟩
  exact ⟨rfl,R,h.later hg,Keep.of_grown hg⟩
 | some i =>
  obtain ⟨hi,hu,_⟩:=pF_some hf
  have hfind:=hw_find_some h.heap hf
  have hx':=hx i hf
  have hh:=h
  obtain ⟨h0,M,B,D,l,X,hS,hy⟩:=h
  have hp:=hS.pay hf
  have hbs:=bs_amid hi
  have hbi:=hS.told.is _ (getB_mem hi)
  dsimp only
  unfold gO at hx'
  unfold gO gS gU gW gN
  obtain ⟨b,hb⟩:∃ b,bs.getD i default=b:=⟨_,rfl⟩
  rw [hb] at hfind hu hp hbi hx'
  rw [hb]
  have hlen:=hbi.len
  rw [if_pos hu] at hlen
  have hhi:=hbi.hi
  have hlow:=hS.low
  have hfind':Calls Tryz.prog 14 #[.pointer (some ⟨T,0,none⟩),.int .u64 p] w fun e w'=>e=.returned (.tuple #[.agg #[.int .u64 (b.off:Nat),.int .u64 (b.s:Nat),.bool true,.int .i64 b.o,.int .u64 (b.n:Nat)],.bool true])∧w.grownBy w' none:=by
   have:=hfind
   unfold Blk.val at this
   rw [hu] at this
   exact this
  have hmay:=relmay_any b k (by omega)
  rw [hu] at hmay
  by_cases hk:cutOk b k
  ·rw [decide_eq_true hk] at hmay
   rw [if_pos hk]
   by_cases hr:k+48≤b.s
   ·rw [if_pos ⟨hk,hr⟩]
    obtain ⟨A,hA⟩:∃ A,bs.take i=A:=⟨_,rfl⟩
    obtain ⟨C,hC⟩:∃ C,bs.drop (i+1)=C:=⟨_,rfl⟩
    rw [hb,hA,hC] at hbs
    rw [hA,hC]
    subst hp
    rw [hbs] at hS
    refine (hcut_ok X h0 hS hu hk hr hfind).mono ?_
    rintro e w' ⟨rfl,R',l',X',⟨hS',hst,_⟩,K⟩
    rw [hu,join_cut hS.merged (b':=⟨b.off,k,true,b.o,b.n⟩) rfl]
    have hn:=need48 b.n
    refine ⟨rfl,R',⟨h0,M,B,D,l',X',hS',?_⟩,K⟩
    rw [hx',hst _ (by omega) (by have:=hk.2.1;omega),← hx',hy]
   ·rw [if_neg fun h=>hr h.2]
    refine (cut_few ⟨hk.2.2,by omega,by omega⟩ hfind' hmay).mono ?_
    rintro e w' ⟨rfl,hg⟩
    exact ⟨rfl,R,hh.later hg,Keep.of_grown hg⟩
  ·rw [decide_eq_false hk] at hmay
   rw [if_neg hk,if_neg fun h=>hk h.1]
   refine (cut_bad hfind' hmay).mono ?_
   rintro e w' ⟨rfl,hg⟩
   exact ⟨rfl,R,hh.later hg,Keep.of_grown hg⟩
theorem ct_code (h:HW w0 w T R ws E bs L) (p k:Nat) :
  Calls Tryz.prog 34 #[.pointer (some ⟨T,0,none⟩),.int .u64 p,.int .u64 k] w fun e w'=>e=.returned (.int .i64 (ctE bs p k:Nat))∧∃ R',HW w0 w' T R' ws E (ctB bs p k) L∧Keep w R w' R':=by
 obtain ⟨y,_,hy⟩:=h.word (match fstN (pF p) bs with|some i=>gO bs i+32|none=>0)
 refine (ct_hx hy (fun i hi=>by rw [hi]) k).mono ?_
 rintro e w' ⟨rfl,R',h1,K⟩
 exact ⟨rfl,R',h1.heap,K⟩
theorem ct_fine {V:World} {R0:Option Nat} {K:Nat} (h:Fine K E bs L) (hK:K≤800) (hR:∀ g,R0=some g→g<V.heap.size) (hv:HvK V R0 base v E bs L) (hb:base≤V.heap.size) (p k:Nat) (hk64:k<18446744073709551616) :
  Calls Tryz.prog 35 #[v,.int .u64 p,.int .u64 k] V fun e w'=>∃ v',e=.returned (.tuple #[v',.int .i64 (ctE bs p k:Nat)])∧HvK w' R0 base v' E (ctB bs p k) L∧V.grownBy w' none:=by
 have h6:=h.few
 have hbd:=h.bounds
 unfold ctE ctB
 cases hf:fstN (pF p) bs with
 | none =>
  refine (rcut11_none hv.is (by omega) hf k).mono ?_
  rintro e w' ⟨rfl,hg⟩
  exact ⟨v,rfl,hv.later hg,hg⟩
 | some i =>
  obtain ⟨hi,hu,_⟩:=pF_some hf
  obtain ⟨_,_,hhi,hlen⟩:=h.is _ (getB_mem hi)
  replace hlen:=hlen hu
  have hlow:=h.low
  have hbs:=bs_amid hi
  dsimp only
  by_cases hk:cutOk (bs.getD i default) k
  ·rw [if_pos hk]
   by_cases hr:k+48≤gS bs i
   ·rw [if_pos ⟨hk,hr⟩]
    unfold gS at hr
    unfold gO gS gU gW gN
    have hti:(bs.take i).length=i:=by rw [List.length_take];omega
    have hv':=hv.is
    obtain ⟨b,hb'⟩:∃ b,bs.getD i default=b:=⟨_,rfl⟩
    obtain ⟨A,hA⟩:∃ A,bs.take i=A:=⟨_,rfl⟩
    obtain ⟨C,hC⟩:∃ C,bs.drop (i+1)=C:=⟨_,rfl⟩
    rw [hb',hA,hC] at hbs
    rw [hb'] at hk hr hlen hhi
    rw [hA] at hti
    rw [hb',hA,hC]
    rw [hbs] at h6 hbd hv' hf
    rw [← hti] at hf
    refine (rcut11_ok hv' hb (by omega) hbd hf (by omega) ⟨hk.1,hk.2.1,hr⟩).mono ?_
    rintro e w' ⟨v',rfl,h1,hrw,hg⟩
    exact ⟨v',rfl,hv.of_rows h1 hrw hR,hg⟩
   ·rw [if_neg fun h=>hr h.2]
    unfold gS at hr
    refine (rcut11_few hv.is (by omega) hf (by omega) (by omega) hk64 hk (by omega)).mono ?_
    rintro e w' ⟨rfl,hg⟩
    exact ⟨v,rfl,hv.later hg,hg⟩
  ·rw [if_neg hk,if_neg fun h=>hk h.1]
   refine (rcut11_bad hv.is (by omega) hf (by omega) (by omega) hk64 hk).mono ?_
   rintro e w' ⟨rfl,hg⟩
   exact ⟨v,rfl,hv.later hg,hg⟩
theorem ct_ref {V:World} {R0:Option Nat} (h:HW w0 w T R ws E bs L) (hR:∀ g,R0=some g→g<V.heap.size) (hv:HvK V R0 base v E bs L) (hb:base≤V.heap.size) (p k:Nat) (hk64:k<18446744073709551616) :
  Calls Tryz.prog 35 #[v,.int .u64 p,.int .u64 k] V fun e w'=>∃ v',e=.returned (.tuple #[v',.int .i64 (ctE bs p k:Nat)])∧HvK w' R0 base v' E (ctB bs p k) L∧V.grownBy w' none:=ct_fine h.snd.fine (by decide) hR hv hb p k hk64
end
end Go.Proofs.YtcbdbflgfhbikaaGreat
