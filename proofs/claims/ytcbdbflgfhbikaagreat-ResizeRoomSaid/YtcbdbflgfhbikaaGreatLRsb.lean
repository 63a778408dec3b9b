/-
  Texts of one layer, one behind the other: memory, contracts of the functions, and what follows of them.
  Conditions: as each theorem says.
-/
import Derived.Test.YtcbdbflgfhbikaaGreatLRei
import Derived.Test.YtcbdbflgfhbikaaGreatRelN
import Derived.Deep.RegionHeld3
import Derived.Test.YtcbdbflgfhbikaaGreatLRsa
set_option linter.unusedVariables false
set_option linter.unusedSimpArgs false
namespace Go.Proofs.YtcbdbflgfhbikaaGreat
open Go.RowKit
set_option maxRecDepth 100000
section
variable {w0 w w':World} {T:Nat} {R:Option Nat} {ws:List Nat} {E base x o a n:Nat} {bs:List Blk} {L:Nat→List Nat} {v:Value}
set_option maxHeartbeats 4000000 in
theorem done12_any (h:HW w0 w T R ws E bs L) (hv:HvK w R base v E bs L) (hx:x<256) (ho:o<256) (ha:a<256) (hn:n<65536) :
  Calls Tryz.prog 27 #[.pointer (some ⟨T,0,none⟩),v,.agg #[.int .u8 x,.int .u8 o,.int .u8 a,.int .u16 n]] w fun e w'=>e=.returned (.tuple #[.int .u64 (dP bs x n:Nat),.int .i64 (dE bs x a n:Nat)])∧∃ R',HW w0 w' T R' ws E (dB bs x o a n) (dL bs L x o a n)∧Keep w R w' R':=by
 have e4:(x:Int).tmod 4=((x % 4:Nat):Int):=by rw [Int.tmod_eq_emod_of_nonneg (by omega)];omega
 have e9:(o:Int).tmod 9=((o % 9:Nat):Int):=by rw [Int.tmod_eq_emod_of_nonneg (by omega)];omega
 have e300:(n:Int).tmod 300=((n % 300:Nat):Int):=by rw [Int.tmod_eq_emod_of_nonneg (by omega)];omega
 have e20:(n:Int).tmod 20=((n % 20:Nat):Int):=by rw [Int.tmod_eq_emod_of_nonneg (by omega)];omega
 have b9:o % 9<9:=Nat.mod_lt _ (by decide)
 have b300:n % 300<300:=Nat.mod_lt _ (by decide)
 have b20:n % 20<20:=Nat.mod_lt _ (by decide)
 have hpay:=fun (V:World) (hg:w.grownBy V none)=>rpayload10_any (hv.later hg).is (by have:=hw_few600 h;omega) (hw_bounds h) a (by omega)
 have htk:=fun (V:World) (hg:w.grownBy V none)=>tk_code (h.later hg) (n:=n % 300) (a:=16) (owner:=o % 9) (.inl rfl) (by omega) (by omega)
 have hfr:=fun (V:World) (hg:w.grownBy V none)=>fr_code (h.later hg) (payB bs a)
 have hct:=fun (V:World) (hg:w.grownBy V none)=>ct_code (h.later hg) (payB bs a) (16*(n % 20))
 obtain ⟨la,n',c,va,ln,vc,rfl,_⟩:=hv.lie
 unfold dP dE dB dL
 obtain ⟨o9,eo9⟩:∃ o9,o % 9=o9:=⟨_,rfl⟩
 obtain ⟨n3,en3⟩:∃ n3,n % 300=n3:=⟨_,rfl⟩
 obtain ⟨n2,en2⟩:∃ n2,n % 20=n2:=⟨_,rfl⟩
 obtain ⟨x4,ex4⟩:∃ x4,x % 4=x4:=⟨_,rfl⟩
 rw [eo9] at e9 b9 htk ⊢
 rw [en3] at e300 b300 htk ⊢
 rw [en2] at e20 b20 hct ⊢
 rw [ex4] at e4 ⊢
 have hx4:x4<4:=by omega
 have w9:IntKind.i64.wrap (o9:Int)=(o9:Nat):=by rw [IntKind.wrap_i64];omega
 have w3:IntKind.u64.wrap (n3:Int)=(n3:Nat):=by rw [IntKind.wrap_u64];omega
 have w2:IntKind.u64.wrap (n2:Int)=(n2:Nat):=by rw [IntKind.wrap_u64];omega
 have wa:IntKind.i64.wrap (a:Int)=(a:Nat):=by rw [IntKind.wrap_i64];omega
 have w16:IntKind.u64.wrap (16*(n2:Int))=((16*n2:Nat):Int):=by rw [IntKind.wrap_u64];omega
 obtain ⟨k16,ek16⟩:∃ k16,16*n2=k16:=⟨_,rfl⟩
 rw [ek16] at w16 hct ⊢
 obtain ⟨P,hP⟩:∃ P,payB bs a=P:=⟨_,rfl⟩
 rw [hP] at hpay hfr hct ⊢
 obtain ⟨tp,htp⟩:∃ tp,tkP bs n3 16=tp:=⟨_,rfl⟩
 obtain ⟨te,hte⟩:∃ te,tkE bs n3 16=te:=⟨_,rfl⟩
 obtain ⟨fe,hfe⟩:∃ fe,frE bs P=fe:=⟨_,rfl⟩
 obtain ⟨ce,hce⟩:∃ ce,ctE bs P k16=ce:=⟨_,rfl⟩
 rw [htp,hte] at htk ⊢
 rw [hfe] at hfr ⊢
 rw [hce] at hct ⊢
 have hpay':∀ V:World,w.grownBy V none→Calls Tryz.prog 13 #[.agg #[.int .u64 E,.slice la n' c,.slice (va 0) (ln 0) (vc 0),.slice (va 1) (ln 1) (vc 1),.slice (va 2) (ln 2) (vc 2),.slice (va 3) (ln 3) (vc 3),.slice (va 4) (ln 4) (vc 4),.slice (va 5) (ln 5) (vc 5),.slice (va 6) (ln 6) (vc 6),.slice (va 7) (ln 7) (vc 7)],.int .i64 a] V fun e w'=>e=.returned (.int .u64 P)∧V.grownBy w' none:=fun V hg=>hpay V hg
 have htk':∀ V:World,w.grownBy V none→Calls Tryz.prog 64 #[.pointer (some ⟨T,0,none⟩),.int .i64 o9,.int .u64 n3,.int .u64 16] V fun e w'=>e=.returned (.tuple #[.int .u64 (tp:Nat),.int .i64 (te:Nat)])∧∃ R',HW w0 w' T R' ws E (tkB bs o9 n3 16) (tkL bs L o9 n3 16)∧Keep V R w' R':=htk
 have ga:=grown_trans (World.grownBy_alloc w (.cells (hC E la n' c va ln vc) 30) none) (World.grownBy_alloc (w.alloc (.cells (hC E la n' c va ln vc) 30)) (.cells #[.int .u8 x,.int .u8 o,.int .u8 a,.int .u16 n] 67) none)
 have hcl:∀ V:World,((w.alloc (.cells (hC E la n' c va ln vc) 30)).alloc (.cells #[.int .u8 x,.int .u8 o,.int .u8 a,.int .u16 n] 67)).grownBy V none→V.cell? ⟨w.heap.size+1,0,none⟩=some (.int .u8 x)∧V.cell? ⟨w.heap.size+1,1,none⟩=some (.int .u8 o)∧V.cell? ⟨w.heap.size+1,2,none⟩=some (.int .u8 a)∧V.cell? ⟨w.heap.size+1,3,none⟩=some (.int .u16 n):=fun V hg=>by
  have h0:=heap_alloc_new' (w.alloc (.cells (hC E la n' c va ln vc) 30)) (.cells #[.int .u8 x,.int .u8 o,.int .u8 a,.int .u16 n] 67)
  rw [World.size_alloc] at h0
  have h1:=(hg.block _ (lt_of_block h0) (by simp)).trans h0
  exact ⟨by simp [World.cell?,h1],by simp [World.cell?,h1],by simp [World.cell?,h1],by simp [World.cell?,h1]⟩
 unfold heapV
 clear hpay hP htp hte hfe hce ek16 eo9 en3 en2 ex4 b9 b300 b20 h hv htk
 rcases (show x4=0∨x4=1∨x4=2∨x4=3 by omega) with rfl|rfl|rfl|rfl
 all_goals
  clear hx4
  simp only [Nat.reduceLT,Nat.reduceEqDiff,if_true,if_false,Int.cast_ofNat_Int,show ((0:Nat):Int)=0 from rfl,show ((1:Nat):Int)=1 from rfl,show ((2:Nat):Int)=2 from rfl,show ((3:Nat):Int)=3 from rfl] at e4 ⊢
  go_enter Tryz.func27,Tryz.ntmps27
  go_wp2_with (first
   | (go_at_call 13;((with_reducible refine (hpay' _ ga).mono ?_);rintro e w2 ⟨rfl,hg2⟩;obtain ⟨d0,d1,d2,d3⟩:=hcl _ hg2;have G2:=grown_trans ga hg2))
   | (go_at_call 64;((with_reducible refine (htk' _ G2).mono ?_);rintro e w3 ⟨rfl,R3,H3,K3⟩))
   | (go_at_call 65;((with_reducible refine (hfr _ G2).mono ?_);rintro e w3 ⟨rfl,R3,H3,K3⟩))
   | (go_at_call 34;((with_reducible refine (hct _ G2).mono ?_);rintro e w3 ⟨rfl,R3,H3,K3⟩)))
  first|go_ret2|go_ret
  exact ⟨rfl,R3,H3,(Keep.of_grown G2).trans K3⟩
end
end Go.Proofs.YtcbdbflgfhbikaaGreat
namespace Go.Proofs.YtcbdbflgfhbikaaGreat
open Go.RowKit
set_option maxRecDepth 100000
section
variable {K E n owner i p:Nat} {bs A C:List Blk} {b:Blk} {L:Nat→List Nat}
theorem Fine.more {K':Nat} (h:Fine K E bs L) (hk:K≤K'):Fine K' E bs L:=⟨Nat.le_trans h.few hk,h.low,h.is,fun c hc=>Nat.le_trans (h.lists c hc) hk⟩
theorem Fine.relen (h:Fine K E (A++b::C) L) (hn:n+40≤b.s):Fine K E (A++⟨b.off,b.s,b.u,b.o,n⟩::C) L:=by
 refine ⟨by have:=h.few;simpa using this,h.low,fun x hx=>?_,h.lists⟩
 rcases List.mem_append.1 hx with h1|h1
 ·exact h.is x (by simp [h1])
 ·rcases List.mem_cons.1 h1 with h2|h2
  ·obtain ⟨a1,a2,a3,_⟩:=h.is b (by simp)
   rw [h2]
   exact ⟨a1,a2,a3,fun _=>hn⟩
  ·exact h.is x (by simp [h2])
theorem Fine.take (h:Fine K E bs L) (ho:owner≤8):Fine (K+1) E (tkB bs owner n 16) (tkL bs L owner n 16):=by
 unfold tkB tkL
 cases hf:fitM bs n 16 with
 | none=>exact h.more (Nat.le_succ K)
 | some i =>
  obtain ⟨hi,hu,hn,_⟩:=fitM_is hf
  obtain ⟨a1,a2,a3,_⟩:=h.is _ (getB_mem hi)
  have hm:=may_bounds a1
  have hnb:=need_bounds n
  have h0:=pad16 (off:=gO bs i) a2
  have hlow:=h.low
  dsimp only
  rw [h0,take_eq]
  have hlen:bs.length=(bs.take i++bs.getD i default::bs.drop (i+1)).length:=congrArg List.length (bs_amid hi)
  have hfew:=h.few
  unfold cutB
  rw [if_pos rfl]
  refine ⟨?_,h.low,fun x hx=>?_,fun c hc=>?_⟩
  ·have:((if (bs.getD i default).s - 0 - needOf n<48 then [] else [freeB ((bs.getD i default).off+0+needOf n) ((bs.getD i default).s - 0 - needOf n)]):List Blk).length≤1:=by
    split <;> simp
   simp only [List.length_append,List.length_cons,List.length_nil] at hlen ⊢
   omega
  ·have hin:x∈bs.take i∨x∈bs.drop (i+1)∨x=⟨(bs.getD i default).off+0,if (bs.getD i default).s - 0 - needOf n<48 then (bs.getD i default).s - 0 else needOf n,true,(owner:Int),n⟩∨(¬ (bs.getD i default).s - 0 - needOf n<48∧x=freeB ((bs.getD i default).off+0+needOf n) ((bs.getD i default).s - 0 - needOf n)):=by
    simp only [List.nil_append,List.mem_append,List.mem_cons] at hx
    rcases hx with h1|(h1|h1)|h1
    ·exact .inl h1
    ·exact .inr (.inr (.inl h1))
    ·by_cases h4:(bs.getD i default).s - 0 - needOf n<48
     ·rw [if_pos h4] at h1;cases h1
     ·rw [if_neg h4] at h1
      exact .inr (.inr (.inr ⟨h4,by simpa using h1⟩))
    ·exact .inr (.inl h1)
   rcases hin with h1|h1|h1|⟨h4,h1⟩
   ·exact h.is x (List.mem_of_mem_take h1)
   ·exact h.is x (List.mem_of_mem_drop h1)
   ·rw [h1]
    by_cases h4:(bs.getD i default).s - 0 - needOf n<48
    ·simp only [h4,if_true]
     exact ⟨may_true (by omega) (by omega) (by omega) ho,by omega,by omega,fun _=>by omega⟩
    ·simp only [h4,if_false]
     exact ⟨may_true (by omega) (by omega) (by omega) ho,by omega,by omega,fun _=>by omega⟩
   ·rw [h1]
    refine ⟨(may_false (s:=(bs.getD i default).s - 0 - needOf n) (by omega) (by omega) (by omega):mayP ((bs.getD i default).s - 0 - needOf n) false 0),?_,?_,fun hq=>by cases hq⟩
    ·show ((bs.getD i default).off+0+needOf n) % 16=0
     omega
    ·show (bs.getD i default).off+0+needOf n+((bs.getD i default).s - 0 - needOf n)≤E
     omega
  ·unfold takeL
   have:=h.lists c hc
   split
   ·omega
   ·unfold setL
    split
    ·rename_i e
     rw [e] at this
     simp only [List.length_cons]
     omega
    ·omega
end
theorem heapV_blk {E E':Nat} {b b':Value} {vs vs':Nat→Value} (h:heapV E b vs=heapV E' b' vs'):b=b':=by
 unfold heapV at h
 simp only [Value.agg.injEq,Array.mk.injEq,List.cons.injEq] at h
 exact h.2.1
theorem HvK.swap {w:World} {R:Option Nat} {base E:Nat} {b b':Value} {vs:Nat→Value} {bs bs':List Blk} {L:Nat→List Nat} (hv:HvK w R base (heapV E b vs) E bs L) (ho:OwnB w base 61 b' bs'):HvK w R base (heapV E b' vs) E bs' L:=by
 obtain ⟨b0,vs0,e,_,k0⟩:=hv
 have q:=(heapV_inj e).2
 exact ⟨b',vs,rfl,ho,fun c hc=>by rw [q c hc];exact k0 c hc⟩
def lenB (bs:List Blk) (i n:Nat):List Blk:=bs.take i++⟨gO bs i,gS bs i,gU bs i,gW bs i,n⟩::bs.drop (i+1)
def rzE (bs:List Blk) (p n:Nat):Nat:=match fstN (pF p) bs with|none=>4|some i=>if 18446744073709551560<n then 2 else if needOf n≤gS bs i then 0 else tkE bs n 16
def rzP (bs:List Blk) (p n:Nat):Nat:=match fstN (pF p) bs with|none=>0|some i=>if 18446744073709551560<n then 0 else if needOf n≤gS bs i then p else tkP bs n 16
def rzB (bs:List Blk) (p n:Nat):List Blk:=match fstN (pF p) bs with|none=>bs|some i=>if 18446744073709551560<n then bs else if needOf n≤gS bs i then ctB (lenB bs i n) p (needOf n) else match fitM bs n 16 with|none=>bs|some _=>frB (tkB bs (gW bs i).toNat n 16) p
def rzL (bs:List Blk) (L:Nat→List Nat) (p n:Nat):Nat→List Nat:=match fstN (pF p) bs with|none=>L|some i=>if 18446744073709551560<n then L else if needOf n≤gS bs i then L else match fitM bs n 16 with|none=>L|some _=>frL (tkB bs (gW bs i).toNat n 16) (tkL bs L (gW bs i).toNat n 16) p
end Go.Proofs.YtcbdbflgfhbikaaGreat
namespace Go.Proofs.YtcbdbflgfhbikaaGreat
open Go.RowKit
set_option maxRecDepth 100000
def HF (w0 w:World) (T:Nat) (R:Option Nat) (ws:List Nat) (E:Nat) (bs:List Blk) (L:Nat→List Nat) (f:Nat→Nat):Prop :=
 8*ws.length=4800∧∃ M B D l,Txs w0 w T M R B D ws l∧SoundF f E bs L∧txSee ws l=f
section
variable {w0 w w':World} {T:Nat} {R R':Option Nat} {ws:List Nat} {E p k n i base owner:Nat} {bs A C:List Blk} {b:Blk} {L:Nat→List Nat} {f:Nat→Nat}
theorem HF.heap (h:HF w0 w T R ws E bs L f):HW w0 w T R ws E bs L:=by
 obtain ⟨h0,M,B,D,l,h1,h2,h3⟩:=h
 exact ⟨h0,M,B,D,l,h1,by rw [h3];exact h2⟩
theorem HW.see (h:HW w0 w T R ws E bs L):∃ f,HF w0 w T R ws E bs L f:=by
 obtain ⟨h0,M,B,D,l,h1,h2⟩:=h
 exact ⟨_,h0,M,B,D,l,h1,h2,rfl⟩
theorem HF.later (h:HF w0 w T R ws E bs L f) (hg:w.grownBy w' none):HF w0 w' T R ws E bs L f:=by
 obtain ⟨h0,M,B,D,l,h1,h2⟩:=h
 exact ⟨h0,M,B,D,l,h1.later hg,h2⟩
theorem HF.sound (h:HF w0 w T R ws E bs L f):SoundF f E bs L:=by
 obtain ⟨h0,M,B,D,l,h1,h2,_⟩:=h
 exact h2
theorem HF.lt (h:HF w0 w T R ws E bs L f) (x:Nat):f x<18446744073709551616:=by
 obtain ⟨h0,M,B,D,l,h1,h2,h3⟩:=h
 rw [← h3]
 exact txSee_lt h1.tx.seg.words h1.tx.ok x
theorem hf_load (h:HF w0 w T R ws E bs L f) {x:Nat} (hx:x<18446744073709551616) :
  Calls Tryz.prog 17 #[.pointer (some ⟨T,0,none⟩),.int .u64 x] w fun e w'=>e=.returned (.int .u64 (f x:Nat))∧w.grownBy w' none:=by
 obtain ⟨h0,M,B,D,l,h1,h2,h3⟩:=h
 have:=txload_any h1.tx x hx
 rw [h3] at this
 exact this
def putF (f:Nat→Nat) (x v:Nat):Nat→Nat:=fun q=>if q=x then v else f q
theorem hf_store (h:HF w0 w T R ws E bs L f) {x v:Nat} (h8:x % 8=0) (hx:x<4800) (hv:v<18446744073709551616) {bs':List Blk} {L':Nat→List Nat} (hs:SoundF (putF f x v) E bs' L') :
  Calls Tryz.prog 16 #[.pointer (some ⟨T,0,none⟩),.int .u64 x,.int .u64 v] w fun e w'=>e=.returned (.tuple #[])∧∃ R',HF w0 w' T R' ws E bs' L' (putF f x v)∧Keep w R w' R':=by
 obtain ⟨h0,M,B,D,l,h1,h2,h3⟩:=h
 refine (txstore_any h1.tx x v (by omega) hv).mono ?_
 rintro e w' ⟨rfl,ht⟩
 obtain ⟨R',h5,h6⟩:=step_keep h1 ht
 refine ⟨rfl,R',⟨h0,M,B,D,_,h5,hs,?_⟩,h6⟩
 funext q
 rw [see_off h0 h8 hx,h3]
 rfl
theorem hf_put (h:HF w0 w T R ws E bs L f) (hb:b∈bs) (hu:b.u=true) {x v:Nat} (h8:x % 8=0) (h1:b.off+32≤x) (h2:x+8≤b.off+b.s - 8) (hv:v<18446744073709551616) :
  Calls Tryz.prog 16 #[.pointer (some ⟨T,0,none⟩),.int .u64 x,.int .u64 v] w fun e w'=>e=.returned (.tuple #[])∧∃ R',HF w0 w' T R' ws E bs L (putF f x v)∧Keep w R w' R':=by
 have hs:=h.sound
 have hbi:=hs.told.is b hb
 have:=hbi.hi
 have:=hs.low
 refine hf_store h h8 (by omega) hv ?_
 obtain ⟨A,C,rfl⟩:=List.append_of_mem hb
 exact payload_sound hs hu fun q hq=>if_neg (by omega)
theorem tk_hf (h:HF w0 w T R ws E bs L f) (hn:n≤18446744073709551560) (how:owner≤8) :
  Calls Tryz.prog 64 #[.pointer (some ⟨T,0,none⟩),.int .i64 owner,.int .u64 n,.int .u64 16] w fun e w'=>e=.returned (.tuple #[.int .u64 (tkP bs n 16:Nat),.int .i64 (tkE bs n 16:Nat)])∧∃ R' f',HF w0 w' T R' ws E (tkB bs owner n 16) (tkL bs L owner n 16) f'∧Held f f' bs∧(fitM bs n 16≠none→∀ j,j<(n+7) / 8→f' (tkP bs n 16+8*j)=0)∧Keep w R w' R':=by
 have ha:alignP 16:=.inl rfl
 unfold tkP tkE tkB tkL
 cases hf:fitM bs n 16 with
 | some i =>
  obtain ⟨h0,M,B,D,l,h1,h2,rfl⟩:=h
  refine (htake_ok h1 h0 h2 ha hn how hf).mono ?_
  rintro e w' ⟨rfl,R',l',X,⟨h3,h4,h5⟩,K⟩
  exact ⟨rfl,R',_,⟨h0,M,B,D,l',X,h3,rfl⟩,h5,fun _=>h4,K⟩
 | none =>
  refine (hw_take_bad h.heap (owner:=owner) (by omega) (by omega) (by omega) (by omega) (fitErr_none ha hn hf) (by decide)).mono ?_
  rintro e w' ⟨rfl,hg⟩
  exact ⟨rfl,R,f,h.later hg,Held.refl,fun hne=>absurd rfl hne,Keep.of_grown hg⟩
theorem fr_hf (h:HF w0 w T R ws E bs L f) {i:Nat} (hf:fstN (pF p) bs=some i) :
  Calls Tryz.prog 65 #[.pointer (some ⟨T,0,none⟩),.int .u64 p] w fun e w'=>e=.returned (.int .i64 0)∧∃ R' f',HF w0 w' T R' ws E (frB bs p) (frL bs L p) f'∧Held f f' (bs.take i++bs.drop (i+1))∧Keep w R w' R':=by
 have hfind:=hw_find_some h.heap hf
 obtain ⟨hi,hu,_⟩:=pF_some hf
 obtain ⟨h0,M,B,D,l,X,hS,rfl⟩:=h
 have hp:=hS.pay hf
 have hz:=hS.frees0
 have hbs:=bs_amid hi
 unfold frB frL
 rw [hf]
 dsimp only
 show Calls Tryz.prog 65 #[.pointer (some ⟨T,0,none⟩),.int .u64 p] w fun e w'=>e=.returned (.int .i64 0)∧∃ R' f',HF w0 w' T R' ws E (joinB (bs.take i++freeB (bs.getD i default).off (bs.getD i default).s::bs.drop (i+1))) (lstB L (bs.getD i default)) f'∧Held (txSee ws l) f' (bs.take i++bs.drop (i+1))∧Keep w R w' R'
 obtain ⟨b,hb'⟩:∃ b,bs.getD i default=b:=⟨_,rfl⟩
 obtain ⟨A,hA⟩:∃ A,bs.take i=A:=⟨_,rfl⟩
 obtain ⟨C,hC⟩:∃ C,bs.drop (i+1)=C:=⟨_,rfl⟩
 rw [hb',hA,hC] at hbs
 rw [hb'] at hu hp hfind
 rw [hb',hA,hC]
 rw [hbs] at hS hz
 rw [hp] at hfind ⊢
 refine (hfree_ok X h0 hS hu hfind).mono ?_
 rintro e w' ⟨rfl,R',l',X',⟨hS',hh⟩,K⟩
 rw [join_free hS.merged fun x hx=>hz x (by simp [hx])]
 exact ⟨rfl,R',_,⟨h0,M,B,D,l',X',hS',rfl⟩,hh,K⟩
theorem ct_hf (h:HF w0 w T R ws E bs L f) {i:Nat} (hf:fstN (pF p) bs=some i) (hk:cutOk (bs.getD i default) k) :
  Calls Tryz.prog 34 #[.pointer (some ⟨T,0,none⟩),.int .u64 p,.int .u64 k] w fun e w'=>e=.returned (.int .i64 0)∧∃ R' f',HF w0 w' T R' ws E (ctB bs p k) L f'∧Held f f' (bs.take i++bs.drop (i+1))∧(∀ x,gO bs i+8≤x→x<gO bs i+k - 8→f' x=f x)∧Keep w R w' R':=by
 have hfind:=hw_find_some h.heap hf
 have hh:=h
 obtain ⟨hi,hu,_⟩:=pF_some hf
 obtain ⟨h0,M,B,D,l,X,hS,rfl⟩:=h
 have hp:=hS.pay hf
 have hbs:=bs_amid hi
 have hbi:=hS.told.is _ (getB_mem hi)
 unfold ctB
 rw [hf]
 dsimp only
 unfold gO gS gU gW gN
 obtain ⟨b,hb⟩:∃ b,bs.getD i default=b:=⟨_,rfl⟩
 rw [hb] at hfind hu hp hbi hk
 rw [hb]
 have hlen:=hbi.len
 rw [if_pos hu] at hlen
 have hhi:=hbi.hi
 have hlow:=hS.low
 have hfind':Calls Tryz.prog 14 #[.pointer (some ⟨T,0,none⟩),.int .u64 p] w fun e w'=>e=.returned (.tuple #[.agg #[.int .u64 (b.off:Nat),.int .u64 (b.s:Nat),.bool true,.int .i64 b.o,.int .u64 (b.n:Nat)],.bool true])∧w.grownBy w' none:=by
  have:=hfind
  unfold Blk.val at this
  rw [hu] at this
  exact this
 have hmay:=relmay_any b k (by omega)
 rw [hu] at hmay
 rw [decide_eq_true hk] at hmay
 by_cases hr:k+48≤b.s
 ·rw [if_pos ⟨hk,hr⟩]
  obtain ⟨A,hA⟩:∃ A,bs.take i=A:=⟨_,rfl⟩
  obtain ⟨C,hC⟩:∃ C,bs.drop (i+1)=C:=⟨_,rfl⟩
  rw [hb,hA,hC] at hbs
  rw [hA,hC]
  rw [hbs] at hS
  rw [hp] at hfind ⊢
  refine (hcut_ok X h0 hS hu hk hr hfind).mono ?_
  rintro e w' ⟨rfl,R',l',X',⟨hS',hst,hh'⟩,K⟩
  rw [hu,join_cut hS.merged (b':=⟨b.off,k,true,b.o,b.n⟩) rfl]
  exact ⟨rfl,R',_,⟨h0,M,B,D,l',X',hS',rfl⟩,hh',hst,K⟩
 ·rw [if_neg fun h=>hr h.2]
  refine (cut_few ⟨hk.2.2,by omega,by omega⟩ hfind' hmay).mono ?_
  rintro e w' ⟨rfl,hg⟩
  exact ⟨rfl,R,_,hh.later hg,Held.refl,fun _ _ _=>rfl,Keep.of_grown hg⟩
end
end Go.Proofs.YtcbdbflgfhbikaaGreat
namespace Go.Proofs.YtcbdbflgfhbikaaGreat
open Go.RowKit
set_option maxRecDepth 100000
section
variable {f:Nat→Nat} {E:Nat} {bs A C:List Blk} {b:Blk} {L:Nat→List Nat} {p i k n:Nat}
theorem fit_some {b:Blk} (hb:b∈bs) (hu:b.u=false) (hal:b.off % 16=0) (hs:needOf n≤b.s):fitM bs n 16≠none:=fun h=>by
 have:=bestK_is (fitB (needOf n) 16) bs bs.length
 rw [show bestK (fitB (needOf n) 16) bs bs.length=none from h] at this
 obtain ⟨j,hj,e⟩:=List.mem_iff_getElem.1 hb
 have h1:=this j hj
 rw [List.getD_eq_getElem?_getD,List.getElem?_eq_getElem hj,Option.getD_some,e] at h1
 unfold fitB at h1
 rw [hu,decide_eq_true hs,pad16 hal,decide_eq_true (Nat.zero_le _)] at h1
 cases h1
theorem need_le {s n:Nat} (h16:s % 16=0) (h48:48≤s) (h:n+40≤s):needOf n≤s:=by
 unfold needOf
 split <;> omega
theorem fst_swap {q:Blk→Bool} {b b':Blk} (hq:q b'=q b) (hf:fstN q (A++b::C)=some A.length):fstN q (A++b'::C)=some A.length:=by
 have h1:=(fstN_some hf).2
 refine fstN_is (by simp) ?_ fun j hj=>?_
 ·rw [List.getD_eq_getElem?_getD,List.getElem?_append_right (Nat.le_refl _),Nat.sub_self] at h1 ⊢
  have h1':q b=true:=h1
  show q b'=true
  rw [hq,h1']
 ·have:=fstN_skip hf j hj
  rw [List.getD_eq_getElem?_getD,List.getElem?_append_left hj] at this ⊢
  exact this
theorem back_find (h:SoundF f E (A++b::C) L) (hf:fstN (pF p) (A++b::C)=some A.length) (hn:n+40≤b.s) :
  fstN (pF p) (ctB (A++⟨b.off,b.s,b.u,b.o,n⟩::C) p (needOf n))=some A.length∧∃ s,(ctB (A++⟨b.off,b.s,b.u,b.o,n⟩::C) p (needOf n)).getD A.length default=⟨b.off,s,b.u,b.o,n⟩∧needOf n≤s∧s<needOf n+48∧s≤b.s:=by
 have hget:∀ x:Blk,(A++x::C).getD A.length default=x:=fun x=>by rw [List.getD_eq_getElem?_getD,List.getElem?_append_right (Nat.le_refl _),Nat.sub_self];rfl
 obtain ⟨_,hu,hp⟩:=pF_some hf
 rw [hget] at hu hp
 have hb:=h.told.is b (by simp)
 have hbs:=hb.size
 have hhi:=hb.hi
 have hlow:=h.low
 have hg:SoundF (fun q=>if q=b.off+8 then n else f q) E (A++⟨b.off,b.s,b.u,b.o,n⟩::C) L:=relen_sound h hu hn (by omega) (if_pos rfl) fun x hx _=>if_neg hx
 have hf':fstN (pF p) (A++⟨b.off,b.s,b.u,b.o,n⟩::C)=some A.length:=fst_swap (b:=b) rfl hf
 obtain ⟨h1,h2⟩:=ct_find hg hf' (needOf n)
 have hnb:=need_bounds n
 have hle:=need_le hbs.2 hbs.1 hn
 refine ⟨h1,?_⟩
 rw [h2,hget]
 by_cases hk:cutOk ⟨b.off,b.s,b.u,b.o,n⟩ (needOf n)∧needOf n+48≤b.s
 ·rw [if_pos hk]
  exact ⟨needOf n,by rw [hu],Nat.le_refl _,by omega,hle⟩
 ·rw [if_neg hk]
  have hok:cutOk ⟨b.off,b.s,b.u,b.o,n⟩ (needOf n):=⟨hnb.1,Nat.le_refl _,hle⟩
  exact ⟨b.s,rfl,hle,Nat.lt_of_not_le fun h4=>hk ⟨hok,h4⟩,Nat.le_refl _⟩
end
end Go.Proofs.YtcbdbflgfhbikaaGreat
