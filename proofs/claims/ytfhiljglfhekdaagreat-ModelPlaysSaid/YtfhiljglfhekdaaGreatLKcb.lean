/-
  Texts of one layer, one behind the other: memory, contracts of the functions, and what follows of them.
  Conditions: as each theorem says.
-/
import Derived.Test.YtfhiljglfhekdaaGreatLKca
import Derived.Deep.RegionHeld3
import Derived.Deep.RegionLaw
set_option linter.unusedVariables false
set_option linter.unusedSimpArgs false
set_option maxRecDepth 100000
namespace Go.Proofs.YtfhiljglfhekdaaGreat
open Go.RowKit
section
section
variable {w w':World} {g cap n p h m:Nat} {f:Nat→KB}
def Ycj (w:World) (h:Nat) (l:List Int):Prop:=∀ j x,l[j]?=some x→w.cell? ⟨h,j,none⟩=some (.int .i64 x)
theorem Ycj.later {l:List Int} (h1:Ycj w h l) (hg:w.grownBy w' none):Ycj w' h l:=fun j x hj=>hg.cell (h1 j x hj) (by simp)
def idxI (l:List Int) (x:Int) (k:Nat):Nat→Int
 | 0 => -1
 | m+1=>if l.getD k 0=x then (k:Int) else idxI l x (k+1) m
theorem idxI_in {l:List Int} {x:Int}:∀ (m k:Nat),k+m=l.length→(0≤idxI l x k m↔x∈l.drop k)
 | 0,k,h=>by
  unfold idxI
  rw [List.drop_of_length_le (by omega)]
  constructor
  ·intro h;omega
  ·intro h;cases h
 | m+1,k,h=>by
  unfold idxI
  have hk:k<l.length:=by omega
  rw [List.drop_eq_getElem_cons hk,List.mem_cons,← idxI_in m (k+1) (by omega)]
  have e:l.getD k 0=l[k]:=by rw [List.getD_eq_getElem?_getD,List.getElem?_eq_getElem hk];rfl
  rw [e]
  by_cases h1:l[k]=x
  ·rw [if_pos h1];constructor
   ·intro _;exact .inl h1.symm
   ·intro _;omega
  ·rw [if_neg h1];constructor
   ·intro h;exact .inr h
   ·rintro (h|h)
    ·exact absurd h.symm h1
    ·exact h
theorem index_any {l:List Int} (hl:l.length=m) (hm:m≤1000000) (h1:Ycj w h l) (x:Int) (c:Nat) :
  Calls Tryz.prog 138 #[.slice (some ⟨h,0,none⟩) m c,.int .i64 x] w fun e w'=>e=.returned (.int .i64 (idxI l x 0 m))∧w=w':=by
 have HL:=Lib.hid hl
 have H1:=Lib.hid h1
 clear hl h1
 go_enter Tryz.func138,Tryz.ntmps138
 go_wp2
 go_loopw [8] (fun vi wr=>∃ k:Nat,k≤m∧vi=.int .i64 k∧w=wr∧Hid (idxI l x 0 m=idxI l x k (m - k))) (fun vi _=>m - (intOf vi).toNat)
 case atStart=>exact ⟨0,Nat.zero_le _,rfl,rfl,Lib.hid rfl⟩
 case round =>
  obtain ⟨k,hk,rfl,rfl,HI⟩:=hrel
  by_cases h2:k<m
  ·have h2':(k:Int)<(m:Int):=by omega
   obtain ⟨y,hy⟩:∃ y,l.getD k 0=y:=⟨_,rfl⟩
   have c0:w.cell? ⟨h,k,none⟩=some (.int .i64 y):=H1.out k y (by rw [← hy,List.getD_eq_getElem?_getD,List.getElem?_eq_getElem (by rw [HL.out];exact h2)];rfl)
   have hst:idxI l x k (m - k)=if y=x then (k:Int) else idxI l x (k+1) (m - (k+1)):=by
    rw [show m - k=(m - (k+1))+1 by omega,← hy];rfl
   clear hy
   by_cases hxy:x=y
   ·subst hxy
    have HS:=Lib.hid (show idxI l x 0 m=(k:Int) by rw [HI.out,hst,if_pos rfl])
    clear hst
    go_wp2
    go_ret
    exact ⟨by rw [HS.out];rfl,rfl⟩
   ·have HS:=Lib.hid (show idxI l x 0 m=idxI l x (k+1) (m - (k+1)) by rw [HI.out,hst,if_neg (fun e=>hxy e.symm)])
    clear hst
    have hb:(x == y)=false:=by rw [beq_eq_false_iff_ne];exact hxy
    go_wp2
    go_roundw
    case rel=>exact ⟨k+1,by omega,by go_num,by trivial,Lib.hid HS.out⟩
    case measure=>simp [intOf];omega
  ·obtain rfl:k=m:=by omega
   have h2':¬ (k:Int)<(k:Int):=by omega
   go_wp2
   go_ret
   exact ⟨by rw [HI.out,Nat.sub_self];rfl,by first|rfl|trivial⟩
theorem contains_any {l:List Int} (hl:l.length=m) (hm:m≤1000000) (h1:Ycj w h l) (x:Int) (c:Nat) :
  Calls Tryz.prog 114 #[.slice (some ⟨h,0,none⟩) m c,.int .i64 x] w fun e w'=>e=.returned (.bool (decide (x∈l)))∧w=w':=by
 have hi:=index_any hl hm h1 x c
 have hin:=idxI_in (l:=l) (x:=x) m 0 (by omega)
 rw [List.drop_zero] at hin
 obtain ⟨z,hz⟩:∃ z,idxI l x 0 m=z:=⟨_,rfl⟩
 rw [hz] at hi hin
 clear hz h1
 by_cases h0:0≤z
 ·rw [decide_eq_true (hin.1 h0)]
  clear hin
  go_enter Tryz.func114,Tryz.ntmps114
  go_wp2_with (go_at_call 138;go_must ((with_reducible refine hi.mono ?_);rintro e w1 ⟨rfl,rfl⟩))
  go_ret
  exact ⟨rfl,rfl⟩
 ·rw [decide_eq_false (fun h=>h0 (hin.2 h))]
  have h0b:decide (0≤z)=false:=decide_eq_false h0
  clear hin
  go_enter Tryz.func114,Tryz.ntmps114
  go_wp2_with (go_at_call 138;go_must ((with_reducible refine hi.mono ?_);rintro e w1 ⟨rfl,rfl⟩))
  go_ret
  exact ⟨rfl,rfl⟩
def bsF (f:Nat→KB) (n:Nat):List Blk:=(List.range n).map fun j=>(f j).b
theorem bsF_len (f:Nat→KB) (n:Nat):(bsF f n).length=n:=by simp [bsF]
theorem bsF_at {j:Nat} (hj:j<n):(bsF f n).getD j default=(f j).b:=by
 unfold bsF
 rw [List.getD_eq_getElem?_getD,List.getElem?_map,List.getElem?_range hj]
 rfl
structure Srt (f:Nat→KB) (n:Nat):Prop where
 up:∀ i j,i<j→j<n→(f i).b.off<(f j).b.off
 lt:∀ j,j<n→(f j).b.off<1000000000
theorem place_is {P all:Nat} {mv:Value} {lv:Nat→Bool} (h:StB w P g cap n all f mv lv) (hn:n≤1000000) (hs:Srt f n) (p:Nat) :
  Calls Tryz.prog 96 #[.pointer (some ⟨P,0,none⟩),.int .u64 p] w fun e w'=>∃ i ok,e=.returned (.tuple #[.int .i64 (i:Nat),.bool ok])∧fstN (pF p) (bsF f n)=(if ok=true then some i else none)∧w.grownBy w' none:=by
 refine (place_any h hn (fun i j h1 h2=>Nat.le_of_lt (hs.up i j h1 h2)) hs.lt p).mono ?_
 rintro e w' ⟨i,ok,rfl,hR,hok,hg⟩
 refine ⟨i,ok,rfl,?_,hg⟩
 have hpf:∀ j,j<n→(pF p ((bsF f n).getD j default)=true↔(f j).b.u=true∧(f j).b.off+32=p):=fun j hj=>by
  rw [bsF_at hj]
  unfold pF
  have:=hs.lt j hj
  simp only [Bool.and_eq_true,decide_eq_true_eq]
  rw [Nat.mod_eq_of_lt (by omega)]
 cases ok with
 | true =>
  obtain ⟨h1,h2,h3⟩:=hok.1 rfl
  rw [if_pos rfl]
  refine fstN_is (by rw [bsF_len];exact h1) ((hpf i h1).2 ⟨h3,h2⟩) fun j hj=>?_
  cases e:pF p ((bsF f n).getD j default) with
  | false=>rfl
  | true =>
   have:=((hpf j (by omega)).1 e).2
   have:=hR.lo j hj
   omega
 | false =>
  rw [if_neg (by decide)]
  refine fstN_not fun j hj=>?_
  rw [bsF_len] at hj
  cases e:pF p ((bsF f n).getD j default) with
  | false=>rfl
  | true =>
   obtain ⟨h1,h2⟩:=(hpf j hj).1 e
   have hji:i≤j:=by
    rcases Nat.lt_or_ge j i with h3|h3
    ·have:=hR.lo j h3;omega
    ·exact h3
   have hin:i<n:=by omega
   have hi:=hR.hi i (Nat.le_refl _) hin
   have hij:i=j:=by
    rcases Nat.lt_or_ge i j with h3|h3
    ·have:=hs.up i j h3 hj;omega
    ·omega
   subst hij
   have:=hok.2 ⟨hin,h2,h1⟩
   cases this
def Yei (bs:List Blk) (p:Nat) (ow:List Int):Nat:=match fstN (pF p) bs with|some i=>if (bs.getD i default).o∈ow then i else 0|none=>0
def Ybj (bs:List Blk) (p:Nat) (ow:List Int):Nat:=match fstN (pF p) bs with|some i=>if (bs.getD i default).o∈ow then 0 else 5|none=>4
set_option maxHeartbeats 1000000 in
theorem used_any {P all:Nat} {mv:Value} {lv:Nat→Bool} (hb:StB w P g cap n all f mv lv) (hn:n≤1000000) (hs:Srt f n) (p:Nat) {ow:List Int} (hl:ow.length=m) (hm:m≤1000000) (h1:Ycj w h ow) (c:Nat) :
  Calls Tryz.prog 88 #[.pointer (some ⟨P,0,none⟩),.int .u64 p,.slice (some ⟨h,0,none⟩) m c] w fun e w'=>e=.returned (.tuple #[.int .i64 (Yei (bsF f n) p ow:Nat),.int .i64 (Ybj (bsF f n) p ow:Nat)])∧w.grownBy w' none:=by
 have hpl:=place_is hb hn hs p
 have HB:=Lib.hid hb
 have HI:=Lib.hid h1
 have HL:=Lib.hid hl
 have HPL:=Lib.hid hpl
 have hlt:∀ i,fstN (pF p) (bsF f n)=some i→i<n:=fun i e=>by have:=(Ydr e).1;rw [bsF_len] at this;exact this
 have HLT:=Lib.hid hlt
 clear hb h1 hl hs hpl hlt
 unfold Yei Ybj
 obtain ⟨r,hr⟩:∃ r,fstN (pF p) (bsF f n)=r:=⟨_,rfl⟩
 have HR:=Lib.hid hr
 rw [hr]
 cases r with
 | none =>
  go_enter Tryz.func88,Tryz.ntmps88
  go_wp2_with (go_at_call 96;go_must ((with_reducible refine HPL.out.mono ?_);rintro e w1 ⟨i,ok,rfl,hF,hg⟩;rw [HR.out] at hF;cases ok <;> simp only [if_true,if_false,Bool.false_eq_true] at hF <;> first|cases hF|skip))
  go_ret2
  exact ⟨rfl,hg⟩
 | some k =>
  have hkn:=HLT.out k HR.out
  have hkn':(k:Int)<(n:Int):=by omega
  dsimp only
  rw [bsF_at hkn]
  obtain ⟨y,hy⟩:∃ y,(f k).b.o=y:=⟨_,rfl⟩
  rw [hy]
  have hct:=fun (V:World) (hV:w.grownBy V none)=>contains_any HL.out hm (HI.out.later hV) y c
  have HCT:=Lib.hid hct
  have hcell:=fun (V:World) (hV:w.grownBy V none)=>(HB.out.later hV).row.cells hkn
  rw [hy] at hcell
  have HC:=Lib.hid hcell
  clear hct hcell hr
  by_cases hin:y∈ow
  ·rw [if_pos hin,if_pos hin]
   have hd:decide (y∈ow)=true:=decide_eq_true hin
   go_enter Tryz.func88,Tryz.ntmps88
   go_wp2_with (first
    | (go_at_call 96;go_must ((with_reducible refine HPL.out.mono ?_);rintro e w1 ⟨i,ok,rfl,hF,hg⟩;rw [HR.out] at hF;obtain rfl:ok=true:=(by cases ok with|true=>rfl|false=>cases hF);obtain rfl:k=i:=(by rw [if_pos rfl] at hF;injection hF);have cC:=HC.out w1 hg;obtain ⟨d0,d1,d2,d3,d4,d5⟩:=cC;obtain ⟨b0,b1,b2⟩:=(HB.out.later hg).cells))
    | (go_at_call 114;go_must ((with_reducible refine (HCT.out _ hg).mono ?_);rintro e w2 ⟨rfl,rfl⟩)))
   go_ret2
   exact ⟨rfl,hg⟩
  ·rw [if_neg hin,if_neg hin]
   have hd:decide (y∈ow)=false:=decide_eq_false hin
   go_enter Tryz.func88,Tryz.ntmps88
   go_wp2_with (first
    | (go_at_call 96;go_must ((with_reducible refine HPL.out.mono ?_);rintro e w1 ⟨i,ok,rfl,hF,hg⟩;rw [HR.out] at hF;obtain rfl:ok=true:=(by cases ok with|true=>rfl|false=>cases hF);obtain rfl:k=i:=(by rw [if_pos rfl] at hF;injection hF);have cC:=HC.out w1 hg;obtain ⟨d0,d1,d2,d3,d4,d5⟩:=cC;obtain ⟨b0,b1,b2⟩:=(HB.out.later hg).cells))
    | (go_at_call 114;go_must ((with_reducible refine (HCT.out _ hg).mono ?_);rintro e w2 ⟨rfl,rfl⟩)))
   go_ret2
   exact ⟨rfl,hg⟩
end
end
section
section
variable {w w':World} {g cap n p vb:Nat} {f:Nat→KB} {x:KB}
def Insd (w w':World) (g n:Nat) (f:Nat→KB) (p:Nat) (x:KB) (v:Value):Prop:=∃ g' cap',v=.slice (some ⟨g',0,none⟩) (n+1) cap'∧RowF w' g' cap' (n+1) (insF f p x)∧w.grownBy w' (some g)∧(g'=g∨w.heap.size≤g')
theorem insert_end (h:RowF w g cap n f) (hn:n≤1000) (hb:w.heap[vb]?=some (.cells x.cel.toArray 53 (0,0))) :
  Calls Tryz.prog 137 #[.slice (some ⟨g,0,none⟩) n cap,.int .i64 n,.slice (some ⟨vb,0,none⟩) 1 1] w fun e w'=>∃ v,e=.returned v∧Insd w w' g n f n x v:=by
 obtain ⟨i0,hi,hz0,hz1,hz2⟩:=info_parts info_kb
 have hown:=h.owns
 have hcel:∀ j u,x.cel[j]?=some u→w.cell? ((⟨vb,0,none⟩:Addr).add j)=some u:=fun j u hj=>by
  have hadd:(⟨vb,0,none⟩:Addr).add j=⟨vb,j,none⟩:=by unfold Addr.add;split <;> simp_all
  rw [hadd]
  simp [World.cell?,hb,hj]
 have HO:=Lib.hid hown
 have HC:=Lib.hid hcel
 have hlt:=Nat.le_of_lt h.lt
 clear h hown hcel hb
 go_enter Tryz.func137,Tryz.ntmps137
 go_wp2_with (at_builtin;go_must (refine wpList_append_own_at _ rfl _ _ 50 rfl 0 53 i0 _ 6 64 Tryz.underlying50 hi hz0 hz1 hz2 rfl (by decide) _ n _ rfl HO.out ⟨vb,0,none⟩ 1 1 x.cel rfl rfl HC.out x.cel_one (by unfold maxLen;omega) (by omega) (Nat.zero_le _) ?_);intro v8 w8 h8 hg8 _ hl8)
 all_goals
  rw [← insF_end] at h8
  obtain ⟨g',cap',hv,hr⟩:=RowF.of_owns h8 (by omega)
  subst hv
  go_ret
  refine ⟨_,rfl,g',cap',rfl,hr,hg8,?_⟩
  rcases hl8 with h9|h9
  ·injection h9 with h9;exact .inl h9
  ·injection h9 with h9;exact .inr (Nat.le_of_eq h9.symm)
set_option maxHeartbeats 4000000 in
theorem insert_room (h:RowF w g cap n f) (hn:n≤1000) (hp:p<n) (hroom:n+1≤cap) (hb:w.heap[vb]?=some (.cells x.cel.toArray 53 (0,0))) (hvb:vb≠g) :
  Calls Tryz.prog 137 #[.slice (some ⟨g,0,none⟩) n cap,.int .i64 p,.slice (some ⟨vb,0,none⟩) 1 1] w fun e w'=>∃ v,e=.returned v∧Insd w w' g n f p x v:=by
 obtain ⟨cur,hg1,hg2,_⟩:=h.ex
 have hcm:=h.cap
 have hov:∀ lb cb,(callFunc 147 #[.slice (some ⟨vb,0,none⟩) 1 1,.slice (some ⟨g,(p+1)*6,none⟩) lb cb]).run Tryz.prog w=.ok (.value (.bool false)) w:=fun lb cb=>by
  rw [run_callFunc_extern Tryz.func147 (by kernel_rfl) (by kernel_rfl) (by kernel_rfl) (e:=Extern.SlicesOverlaps.overlaps #[50,50] #[4]) (by kernel_rfl),
   Lib.run_overlaps_apart w 50 4 53 Tryz.underlying50 6 (fun w=>by kernel_rfl) ⟨vb,0,none⟩ ⟨g,(p+1)*6,none⟩ 1 1 lb cb hvb 53 53 6 (cap*6) (by simp [World.shape?,hb,KB.cel]) (by simp [World.shape?,hg1,hg2]) (by omega) (by simp [World.frozen?,hb]) (by simp [World.frozen?,hb])]
  rfl
 have hlt1:=h.lt
 obtain ⟨X,hX⟩:∃ X,(List.range (n - p)).map (fun j=>f (p+j))=X:=⟨_,rfl⟩
 have hXl:X.length=n - p:=by rw [← hX];simp
 have hXa:∀ j,j<n - p→X.getD j default=f (p+j):=fun j hj=>by rw [← hX,List.getD_eq_getElem?_getD,List.getElem?_map,List.getElem?_range hj];rfl
 have hdr:=h.later (Yah (Yag w none))
 obtain ⟨hr1,hgr1⟩:=hdr.over (q:=p+1) (X:=X) (by omega) (n':=n+1) (.inr (by omega)) (by omega)
 have hcp1:∀ ty dc sc,(Builtin.copy_ #[50,50] ty #[.slice (some ⟨g,(p+1)*6,none⟩) (n - p) dc,.slice (some ⟨g,p*6,none⟩) (n+1 - p) sc]).run Tryz.prog w.drew=.ok (goInt X.length) (w.drew.setCells g ((p+1)*6) (Ybv X)):=fun ty dc sc =>
  run_copy6 w.drew ty g ((p+1)*6) (n - p) dc ⟨g,p*6,none⟩ (n+1 - p) sc X (by rw [hXl];simp only [Nat.min_def];split <;> omega)
   (fun j v hj=>by rw [Addr.add_lit];exact hdr.src (by omega) (fun j hj=>hXa j (by omega)) j v hj)
   (fun j hj=>hdr.has (by omega)) (fun j hj=>hdr.frz _)
 obtain ⟨W1,hW1⟩:∃ W1,w.drew.setCells g ((p+1)*6) (Ybv X)=W1:=⟨_,rfl⟩
 rw [hW1] at hcp1 hr1 hgr1
 have hG1:w.grownBy W1 (some g):=Yaa (Yam (Yah (Yag w none)) _) hgr1
 have hb1:W1.heap[vb]?=some (.cells x.cel.toArray 53 (0,0)):=(hG1.block _ (lt_of_block hb) (fun e=>hvb (by injection e))).trans hb
 obtain ⟨hr2,hgr2⟩:=hr1.over (q:=p) (X:=[x]) (by omega) (n':=n+1) (.inl (Nat.le_refl _)) (by show p+1≤cap;omega)
 have hcp2:∀ ty dc,(Builtin.copy_ #[50,50] ty #[.slice (some ⟨g,p*6,none⟩) (n+1 - p) dc,.slice (some ⟨vb,0,none⟩) 1 1]).run Tryz.prog W1=.ok (goInt 1) (W1.setCells g (p*6) (Ybv [x])):=fun ty dc =>
  run_copy6 W1 ty g (p*6) (n+1 - p) dc ⟨vb,0,none⟩ 1 1 [x] (by simp only [Nat.min_def,List.length_singleton];split <;> omega)
   (fun j v hj=>by
    have hadd:(⟨vb,0,none⟩:Addr).add j=⟨vb,j,none⟩:=by unfold Addr.add;split <;> simp_all
    rw [hadd]
    have hj':x.cel[j]?=some v:=by simpa [Ybv] using hj
    simp [World.cell?,hb1,hj'])
   (fun j hj=>hr1.has (by rw [List.length_singleton] at hj;omega)) (fun j hj=>hr1.frz _)
 obtain ⟨W2,hW2⟩:∃ W2,W1.setCells g (p*6) (Ybv [x])=W2:=⟨_,rfl⟩
 rw [hW2] at hcp2 hr2 hgr2
 have hend:Insd w W2 g n f p x (.slice (some ⟨g,0,none⟩) (n+1) cap):=by
  refine ⟨g,cap,rfl,hr2.congr fun j hj=>?_,Yaa hG1 hgr2,.inl rfl⟩
  unfold insF ovrF
  simp only [List.length_singleton]
  by_cases h1:j<p
  ·rw [if_pos h1,if_neg (by omega),if_neg (by omega)]
  ·rw [if_neg h1]
   by_cases h2:j=p
   ·subst h2;rw [if_pos rfl,if_pos (by omega),Nat.sub_self];rfl
   ·rw [if_neg h2,if_neg (by omega),if_pos (by omega),hXa _ (by omega)]
    congr 1;omega
 have HE:=Lib.hid hend
 have hz2:¬ ((p:Int)=(n:Int)):=by omega
 have hw1:IntKind.i64.wrap ((p:Int)+1)=(p:Int)+1:=by rw [IntKind.wrap_i64];omega
 have hw2:IntKind.i64.wrap ((n:Int)+1)=(n:Int)+1:=by rw [IntKind.wrap_i64];omega
 have hc3:¬ (cap:Int)<(n:Int)+1:=by omega
 have hb1':(0:Int)≤(p:Int)+1:=by omega
 have htn:((p:Int)+1).toNat=p+1:=by omega
 have htn2:((n:Int)+1).toNat=n+1:=by omega
 have hb2:¬ (cap=p+1):=by omega
 have hb3:(p:Int)+1≤(n:Int)+1:=by omega
 have hb4:¬ (cap=p):=by omega
 have hb5:(p:Int)≤(n:Int)+1:=by omega
 have hb6:(n:Int)+1≤(cap:Int):=by omega
 have hb7:(p:Int)≤(n:Int):=by omega
 have HB:=Lib.hid hb
 clear hr1 hr2 hgr1 hgr2 hG1 hdr h hend hX hXl hXa hW1 hW2 hg1 hg2 hb hb1
 go_enter Tryz.func137,Tryz.ntmps137
 go_wp2_with (simp only [hov])
 go_region_law (refine step_copy_runI rfl _ _ 50 50 rfl _ _ (by simp [Act.eval,Act.put]) (by simp [Act.eval,Act.put]) (hcp1 _ _ _) ?_)
 all_goals
  go_wp2_with ((refine wpList_copy_runI _ rfl _ _ 50 50 rfl _ _ rfl rfl (hcp2 _ _) ?_))
  go_ret
  exact ⟨_,rfl,HE.out⟩
set_option maxHeartbeats 4000000 in
theorem insert_grow (h:RowF w g cap n f) (hn:n≤1000) (hp:p<n) (hroom:cap<n+1) (hb:w.heap[vb]?=some (.cells x.cel.toArray 53 (0,0))) (hvb:vb≠g) :
  Calls Tryz.prog 137 #[.slice (some ⟨g,0,none⟩) n cap,.int .i64 p,.slice (some ⟨vb,0,none⟩) 1 1] w fun e w'=>∃ v,e=.returned v∧Insd w w' g n f p x v:=by
 obtain ⟨i0,hi0,hz0,hzs,hzb⟩:=info_parts info_kb
 have hle:=h.le
 have hcap:cap=n:=by omega
 obtain ⟨N,hN⟩:∃ N,w.heap.size=N:=⟨_,rfl⟩
 have hgN:g<N:=by rw [← hN];exact h.lt
 have hvN:vb<N:=by rw [← hN];exact lt_of_block hb
 obtain ⟨Y,hY⟩:∃ Y,(List.range p).map f=Y:=⟨_,rfl⟩
 have hYl:Y.length=p:=by rw [← hY];simp
 have hYa:∀ j,j<p→Y.getD j default=f j:=fun j hj=>by rw [← hY];exact rangeK_at hj
 have hdr:=h.later (Yah (Yag w none))
 have hold:(Builtin.firstCells i0.size p (.slice (some ⟨g,0,none⟩) p cap)).run Tryz.prog w.drew=.ok (Ybv Y).toArray w.drew:=by
  rw [hzs]
  exact run_firstCells_some w.drew 6 p ⟨g,0,none⟩ p cap (Ybv Y) (by rw [Yci,hYl]) (fun j v hj=>by
   have hadd:(⟨g,0,none⟩:Addr).add j=⟨g,0*6+j,none⟩:=by unfold Addr.add;split <;> simp_all
   rw [hadd]
   exact hdr.src (q:=0) (by omega) (fun j hj=>by rw [Nat.zero_add];exact hYa j (by omega)) j v hj)
 have hkk:(n:Int)+1 - (p:Int)=((n+1 - p:Nat):Int):=by omega
 have hik:p+(n+1 - p)=n+1:=by omega
 obtain ⟨G,hG⟩:∃ G,grownCap w (n+1) cap 53=G:=⟨_,rfl⟩
 have hGn:n+1≤G:=by rw [← hG];exact grownCap_ge w _ _ _
 have hGm:G≤maxLen:=by rw [← hG];exact grownCap_le_maxLen w (n+1) cap _ (by unfold maxLen;omega)
 obtain ⟨ROW,hROW⟩:∃ ROW:Array Value,(Ybv Y).toArray++Builtin.zeroCells (Value.agg #[.int .u64 0,.int .u64 0,.bool false,.int .i64 0,.int .u64 0,.slice none 0 0]).cells (n+1 - p)++Builtin.zeroCells (Value.agg #[.int .u64 0,.int .u64 0,.bool false,.int .i64 0,.int .u64 0,.slice none 0 0]).cells (G - (n+1))=ROW:=⟨_,rfl⟩
 have hrz:∀ ty,(Builtin.append_ #[50,3] ty #[.slice (some ⟨g,0,none⟩) p cap,.int .i64 ((n:Int)+1 - (p:Int))]).run Tryz.prog w =
   .ok (.slice (some ⟨N,0,none⟩) (n+1) G) (w.drew.alloc (.cells ROW 53)):=fun ty=>by
  have h:=Lib.run_append_grow_zeros w 50 3 ty 53 i0 _ .i64 .i64 Tryz.underlying50 Tryz.underlying3 hi0 hz0 (some ⟨g,0,none⟩) p cap (Ybv Y) hold (n+1 - p) (by omega) (by omega) (by omega) (by omega) (by rw [hzb];omega) (by rw [hzb,hik];exact growslice_fits hroom (by omega))
  rw [hik,hG,hN,hROW] at h
  rw [hkk]
  exact h
 have hRs:ROW.size=G*6:=by
  rw [← hROW]
  simp [Builtin.zeroCells,Value.cells,Yci,hYl]
  omega
 have hrow0:RowF (w.alloc (.cells ROW 53)) N G p f:=by
  refine ⟨⟨ROW,by rw [← hN];exact Yab w _,hRs,fun j hj i hi=>?_⟩,by omega,hGm⟩
  rw [← hROW,Array.append_assoc,Array.getElem?_append_left (by simp [Yci,hYl];omega),List.getElem?_toArray,Yez _ _ _ (by omega) hi,hYa j hj]
 have hga:=World.grownBy_alloc w (.cells ROW 53) none
 obtain ⟨X,hX⟩:∃ X,(List.range (n - p)).map (fun j=>f (p+j))=X:=⟨_,rfl⟩
 have hXl:X.length=n - p:=by rw [← hX];simp
 have hXa:∀ j,j<n - p→X.getD j default=f (p+j):=fun j hj=>by rw [← hX,List.getD_eq_getElem?_getD,List.getElem?_map,List.getElem?_range hj];rfl
 obtain ⟨W1,hW1⟩:∃ W1,w.alloc (.cells ROW 53)=W1:=⟨_,rfl⟩
 have hWd:w.drew.alloc (.cells ROW 53)=W1.drew:=by rw [← hW1];rfl
 rw [hWd] at hrz
 rw [hW1] at hrow0 hga
 have hgd:w.grownBy W1.drew none:=Yaa hga (Yah (Yag _ _))
 have hrow1:=hrow0.later (Yah (Yag W1 none))
 have hb1:W1.drew.heap[vb]?=some (.cells x.cel.toArray 53 (0,0)):=(hgd.block _ (by omega) (by simp)).trans hb
 have hcpA:∀ ty dc,(Builtin.copy_ #[50,50] ty #[.slice (some ⟨N,p*6,none⟩) (n+1 - p) dc,.slice (some ⟨vb,0,none⟩) 1 1]).run Tryz.prog W1.drew=.ok (goInt 1) (W1.drew.setCells N (p*6) (Ybv [x])):=fun ty dc =>
  run_copy6 W1.drew ty N (p*6) (n+1 - p) dc ⟨vb,0,none⟩ 1 1 [x] (by simp only [Nat.min_def,List.length_singleton];split <;> omega)
   (fun j v hj=>by
    have hadd:(⟨vb,0,none⟩:Addr).add j=⟨vb,j,none⟩:=by unfold Addr.add;split <;> simp_all
    rw [hadd]
    have hj':x.cel[j]?=some v:=by simpa [Ybv] using hj
    simp [World.cell?,hb1,hj'])
   (fun j hj=>hrow1.has (by rw [List.length_singleton] at hj;omega)) (fun j hj=>hrow1.frz _)
 obtain ⟨hr2,hg2⟩:=hrow1.over (q:=p) (X:=[x]) (Nat.le_refl _) (n':=p+1) (.inr (Nat.le_refl _)) (by show p+1≤G;omega)
 obtain ⟨W2,hW2⟩:∃ W2,W1.drew.setCells N (p*6) (Ybv [x])=W2:=⟨_,rfl⟩
 rw [hW2] at hcpA hr2 hg2
 have hG2:w.grownBy W2 none:=Yap (Yaa (Yam hgd _) hg2) (by omega)
 have hr3:=hr2.later (Yah (Yag W2 none))
 have hsrc:=h.later (Yaa hG2 (Yah (Yag W2 none)))
 have hcpB:∀ ty dc sc,(Builtin.copy_ #[50,50] ty #[.slice (some ⟨N,(p+1)*6,none⟩) (n - p) dc,.slice (some ⟨g,p*6,none⟩) (n - p) sc]).run Tryz.prog W2.drew=.ok (goInt X.length) (W2.drew.setCells N ((p+1)*6) (Ybv X)):=fun ty dc sc =>
  run_copy6 W2.drew ty N ((p+1)*6) (n - p) dc ⟨g,p*6,none⟩ (n - p) sc X (by rw [hXl];simp [Nat.min_def])
   (fun j v hj=>by rw [Addr.add_lit];exact hsrc.src (by omega) (fun j hj=>hXa j (by omega)) j v hj)
   (fun j hj=>hr3.has (by omega)) (fun j hj=>hr3.frz _)
 obtain ⟨hr4,hg4⟩:=hr3.over (q:=p+1) (X:=X) (Nat.le_refl _) (n':=n+1) (.inr (by omega)) (by omega)
 obtain ⟨W3,hW3⟩:∃ W3,W2.drew.setCells N ((p+1)*6) (Ybv X)=W3:=⟨_,rfl⟩
 rw [hW3] at hcpB hr4 hg4
 have hend:Insd w W3 g n f p x (.slice (some ⟨N,0,none⟩) (n+1) G):=by
  refine ⟨N,G,rfl,hr4.congr fun j hj=>?_,Yam (Yap (Yaa (Yam (Yaa hG2 (Yah (Yag W2 none))) _) hg4) (by omega)) _,.inr (by omega)⟩
  unfold insF ovrF
  simp only [List.length_singleton]
  by_cases h1:j<p
  ·rw [if_pos h1,if_neg (by omega),if_neg (by omega)]
  ·rw [if_neg h1]
   by_cases h2:j=p
   ·subst h2;rw [if_pos rfl,if_neg (by omega),if_pos (by omega),Nat.sub_self];rfl
   ·rw [if_neg h2,if_pos (by omega),hXa _ (by omega)]
    congr 1;omega
 have HE:=Lib.hid hend
 have hz2:¬ ((p:Int)=(n:Int)):=by omega
 have hw1:IntKind.i64.wrap ((p:Int)+1)=(p:Int)+1:=by rw [IntKind.wrap_i64];omega
 have hw2:IntKind.i64.wrap ((n:Int)+1)=(n:Int)+1:=by rw [IntKind.wrap_i64];omega
 have hw3:IntKind.i64.wrap ((n:Int)+1 - (p:Int))=(n:Int)+1 - (p:Int):=by rw [IntKind.wrap_i64];omega
 have hc3:(cap:Int)<(n:Int)+1:=by omega
 have hb1':(0:Int)≤(p:Int)+1:=by omega
 have htn:((p:Int)+1).toNat=p+1:=by omega
 have hb3:(p:Int)+1≤(n:Int)+1:=by omega
 have hb4:¬ (cap=p):=by omega
 have hb5:(p:Int)≤(n:Int)+1:=by omega
 have hb7:(p:Int)≤(n:Int):=by omega
 have hb8:(p:Int)≤(cap:Int):=by omega
 have hb9:¬ (G=p):=by omega
 have hb10:¬ (G=p+1):=by omega
 have HXL:=Lib.hid hXl
 clear hr2 hr3 hr4 hg2 hg4 hrow0 hrow1 hga hgd hG2 hsrc hdr h hend hX hXl hXa hW1 hW2 hW3 hWd hb hb1 hRs hROW hG hold hkk hik hY hYl hYa hN hcap hGm
 go_enter Tryz.func137,Tryz.ntmps137
 go_wp2_with (first
  | (at_builtin;refine Lib.wpList_append_run _ rfl _ _ _ _ rfl _ _ rfl rfl _ _ (hrz _) ?_)
  | (refine wpList_copy_runI _ rfl _ _ 50 50 rfl _ _ rfl rfl (hcpA _ _) ?_))
 go_region_law (refine step_copy_runI rfl _ _ 50 50 rfl _ _ (by simp [Act.eval,Act.put]) (by simp [Act.eval,Act.put]) (hcpB _ _ _) ?_)
 all_goals
  go_wp2
  go_ret
  exact ⟨_,rfl,HE.out⟩
theorem insert_any (h:RowF w g cap n f) (hn:n≤1000) (hp:p≤n) (hb:w.heap[vb]?=some (.cells x.cel.toArray 53 (0,0))) (hvb:vb≠g) :
  Calls Tryz.prog 137 #[.slice (some ⟨g,0,none⟩) n cap,.int .i64 p,.slice (some ⟨vb,0,none⟩) 1 1] w fun e w'=>∃ v,e=.returned v∧Insd w w' g n f p x v:=by
 by_cases h1:p=n
 ·subst h1;exact insert_end h hn hb
 ·by_cases h2:n+1≤cap
  ·exact insert_room h hn (by omega) h2 hb hvb
  ·exact insert_grow h hn (by omega) (by omega) hb hvb
end
end
section
def jSK (out:List KB) (x:KB):List KB :=
 match out.getLast? with
 | some p=>if p.b.u=false∧x.b.u=false then out.dropLast++[{ p with b:=⟨p.b.off,p.b.s+x.b.s,p.b.u,p.b.o,p.b.n⟩ }] else out++[x]
 | none=>out++[x]
def jnK (f:Nat→KB):Nat→List KB
 | 0=>[]
 | k+1=>jSK (jnK f k) (f k)
theorem jSK_map (out:List KB) (x:KB):(jSK out x).map KB.b=Ycf (out.map KB.b) x.b:=by
 unfold jSK Ycf
 rw [List.getLast?_map]
 cases out.getLast? with
 | none=>simp
 | some p =>
  simp only [Option.map_some]
  split
  ·rw [List.map_append,List.map_dropLast];rfl
  ·simp
theorem jnK_map (f:Nat→KB) (n:Nat):∀ k,k≤n→(jnK f k).map KB.b=joinK (bsF f n) k
 | 0,_=>rfl
 | k+1,h=>by
  show (jSK (jnK f k) (f k)).map KB.b=Ycf (joinK (bsF f n) k) ((bsF f n).getD k default)
  rw [jSK_map,jnK_map f n k (by omega),bsF_at (by omega)]
theorem jnK_len (f:Nat→KB) (k:Nat):(jnK f k).length≤k:=by
 have h1:=jnK_map f k k (Nat.le_refl _)
 have h2:=joinK_len (bsF f k) k
 rw [← h1,List.length_map] at h2
 exact h2
theorem jnK_mem (f:Nat→KB):∀ k,∀ x∈jnK f k,(∃ j,j<k∧x=f j)∨(∃ j,j<k∧x.b.u=false∧(f j).b.u=false∧x.a=(f j).a∧x.m=(f j).m∧x.c=(f j).c∧x.d=(f j).d)
 | 0,x,hx=>by cases hx
 | k+1,x,hx=>by
  have ih:=jnK_mem f k
  have old:∀ y∈jnK f k,(∃ j,j<k+1∧y=f j)∨(∃ j,j<k+1∧y.b.u=false∧(f j).b.u=false∧y.a=(f j).a∧y.m=(f j).m∧y.c=(f j).c∧y.d=(f j).d):=fun y hy=>by
   rcases ih y hy with ⟨j,h1,h2⟩|⟨j,h1,h2⟩
   ·exact .inl ⟨j,by omega,h2⟩
   ·exact .inr ⟨j,by omega,h2⟩
  unfold jnK jSK at hx
  split at hx
  ·rename_i p hp
   split at hx
   ·rename_i hu
    rcases List.mem_append.1 hx with h|h
    ·exact old x (List.dropLast_subset _ h)
    ·rw [List.mem_singleton.1 h]
     have hpm:=List.mem_of_getLast? hp
     rcases old p hpm with ⟨j,h1,h2⟩|⟨j,h1,h2,h3,h4,h5,h6,h7⟩
     ·exact .inr ⟨j,h1,hu.1,by rw [← h2];exact hu.1,by rw [← h2],by rw [← h2],by rw [← h2],by rw [← h2]⟩
     ·exact .inr ⟨j,h1,h2,h3,h4,h5,h6,h7⟩
   ·rcases List.mem_append.1 hx with h|h
    ·exact old x h
    ·exact .inl ⟨k,by omega,List.mem_singleton.1 h⟩
  ·rcases List.mem_append.1 hx with h|h
   ·exact old x h
   ·exact .inl ⟨k,by omega,List.mem_singleton.1 h⟩
structure Mid (w:World) (g cap n:Nat) (f0 f:Nat→KB) (k:Nat):Prop where
 row:RowF w g cap n f
 out:∀ j,j<(jnK f0 k).length→f j=(jnK f0 k).getD j default
 rest:∀ j,k≤j→j<n→f j=f0 j
section
variable {w w':World} {P g cap n all k:Nat} {f f0:Nat→KB} {mv:Value} {lv:Nat→Bool}
theorem Mid.app (h:Mid w g cap n f0 f k) (hk:k<n) (ha:jnK f0 (k+1)=jnK f0 k++[f0 k]) (hr:RowF w' g cap n (updK f (jnK f0 k).length (f0 k))):Mid w' g cap n f0 (updK f (jnK f0 k).length (f0 k)) (k+1):=by
 have hl:=jnK_len f0 k
 refine ⟨hr,fun j hj=>?_,fun j h1 h2=>?_⟩
 ·rw [ha] at hj ⊢
  rw [List.length_append,List.length_singleton] at hj
  rcases Nat.lt_or_ge j (jnK f0 k).length with h1|h1
  ·rw [Ydu (by omega),h.out j h1,List.getD_eq_getElem?_getD,List.getD_eq_getElem?_getD,List.getElem?_append_left h1]
  ·obtain rfl:j=(jnK f0 k).length:=by omega
   rw [Yby,List.getD_eq_getElem?_getD,List.getElem?_append_right (Nat.le_refl _),Nat.sub_self]
   rfl
 ·rw [Ydu (by omega)]
  exact h.rest j (by omega) h2
theorem Mid.add (h:Mid w g cap n f0 f k) (hk:k<n) {p:KB} (hp:(jnK f0 k).getLast?=some p) (hu:p.b.u=false∧(f0 k).b.u=false) (hr:RowF w' g cap n (updK f ((jnK f0 k).length - 1) { p with b:=⟨p.b.off,p.b.s+(f0 k).b.s,p.b.u,p.b.o,p.b.n⟩ })):Mid w' g cap n f0 (updK f ((jnK f0 k).length - 1) { p with b:=⟨p.b.off,p.b.s+(f0 k).b.s,p.b.u,p.b.o,p.b.n⟩ }) (k+1):=by
 have hl:=jnK_len f0 k
 have hne:jnK f0 k≠[]:=fun e=>by rw [e] at hp;cases hp
 have hl0:0<(jnK f0 k).length:=List.length_pos_iff.2 hne
 have ha:jnK f0 (k+1)=(jnK f0 k).dropLast++[{ p with b:=⟨p.b.off,p.b.s+(f0 k).b.s,p.b.u,p.b.o,p.b.n⟩ }]:=by
  show jSK (jnK f0 k) (f0 k)=_
  unfold jSK
  rw [hp]
  exact if_pos hu
 refine ⟨hr,fun j hj=>?_,fun j h1 h2=>?_⟩
 ·rw [ha] at hj ⊢
  rw [List.length_append,List.length_singleton,List.length_dropLast] at hj
  rcases Nat.lt_or_ge j ((jnK f0 k).length - 1) with h1|h1
  ·rw [Ydu (by omega),h.out j (by omega),List.getD_eq_getElem?_getD,List.getD_eq_getElem?_getD,List.getElem?_append_left (by rw [List.length_dropLast];exact h1),List.getElem?_dropLast,if_pos h1]
  ·obtain rfl:j=(jnK f0 k).length - 1:=by omega
   rw [Yby,List.getD_eq_getElem?_getD,List.getElem?_append_right (by rw [List.length_dropLast];exact Nat.le_refl _),List.length_dropLast,Nat.sub_self]
   rfl
 ·rw [Ydu (by omega)]
  exact h.rest j (by omega) h2
end
end
section
section
variable {w w':World} {P g cap n all k:Nat} {f f0:Nat→KB} {mv:Value} {lv:Nat→Bool}
structure Mrg (w w':World) (P g cap n all:Nat) (f0:Nat→KB) (mv:Value) (lv:Nat→Bool):Prop where
 ex:∃ f',StB w' P g cap (jnK f0 n).length all f' mv lv∧∀ j,j<(jnK f0 n).length→f' j=(jnK f0 n).getD j default
 turned:Ybo (fun i=>i=P∨i=g) w w'
set_option maxHeartbeats 4000000 in
theorem merge_any (h:StB w P g cap n all f0 mv lv) (hn:n≤1000) (hS:∀ j,j<n→(f0 j).b.s≤10000000) (hPg:P≠g) :
  Calls Tryz.prog 40 #[.pointer (some ⟨P,0,none⟩)] w fun e w'=>e=.returned (.tuple #[])∧Mrg w w' P g cap n all f0 mv lv:=by
 obtain ⟨e0,e1,e2⟩:=h.cells
 have hfr:=h.frz 1
 have HH:=Lib.hid h
 have HS:=Lib.hid hS
 have hcn:=h.row.le
 have HCM:=Lib.hid h.row.cap
 have HSZ:=Lib.hid (joinK_size (bs:=bsF f0 n) (S:=10000000) (fun j hj=>by rw [bsF_len] at hj;show ((bsF f0 n).getD j default).s≤_;rw [bsF_at hj];exact hS j hj))
 have HBX:Hid (∀ V:World,w.grownBy V (some g)→V.heap[P]?=some (.cells (stC all (.slice (some ⟨g,0,none⟩) n cap) mv lv) 91 (0,0))):=Lib.hid (fun V hV=>(hV.block _ (lt_of_block h.box) (fun e=>hPg (by injection e))).trans h.box)
 clear h hS
 go_enter Tryz.func40,Tryz.ntmps40
 go_wp2
 go_loopw [2,16] (fun vl vk wr=>∃ k m:Nat,k≤n∧vk=.int .i64 k∧vl=.slice (some ⟨g,0,none⟩) m cap∧(jnK f0 k).length=m∧Hid (∃ f,Mid wr g cap n f0 f k)∧w.grownBy wr (some g)) (fun _ vk _=>n - (intOf vk).toNat)
 case atStart=>exact ⟨0,0,Nat.zero_le _,rfl,rfl,rfl,Lib.hid ⟨f0,⟨HH.out.row,fun j hj=>absurd hj (Nat.not_lt_zero _),fun j _ _=>rfl⟩⟩,Yam (Yag _ _) _⟩
 case round =>
  obtain ⟨k,m,hk,rfl,rfl,hml,HM0,hg⟩:=hrel
  obtain ⟨f,hmid⟩:=HM0.out
  have hmk:m≤k:=by rw [← hml];exact jnK_len f0 k
  have HMID:=Lib.hid hmid
  by_cases h1:k<n
  ·have h1':(k:Int)<(n:Int):=by omega
   have hxk:f k=f0 k:=hmid.rest k (Nat.le_refl _) h1
   obtain ⟨c0,c1,c2,c3,c4,c5⟩:=hmid.row.cells h1
   have hxs:=HS.out k h1
   rw [hxk] at c0 c1 c2 c3 c4 c5
   obtain ⟨x,hx⟩:∃ x,f0 k=x:=⟨_,rfl⟩
   rw [hx] at c0 c1 c2 c3 c4 c5 hxs
   obtain ⟨⟨x0,x1,x2,x3,x4⟩,xa,xm,xc,xd⟩:=x
   simp only at c0 c1 c2 c3 c4 c5 hxs
   have HX:=Lib.hid hx
   obtain ⟨W1,hW1⟩:∃ W1,wr.alloc (.cells #[.int .u64 (x0:Nat),.int .u64 (x1:Nat),.bool x2,.int .i64 x3,.int .u64 (x4:Nat),.slice xa xm xc] 53)=W1:=⟨_,rfl⟩
   have hb:=Yab wr (.cells #[.int .u64 (x0:Nat),.int .u64 (x1:Nat),.bool x2,.int .i64 x3,.int .u64 (x4:Nat),.slice xa xm xc] 53)
   have ga:=World.grownBy_alloc wr (.cells #[.int .u64 (x0:Nat),.int .u64 (x1:Nat),.bool x2,.int .i64 x3,.int .u64 (x4:Nat),.slice xa xm xc] 53) none
   rw [hW1] at hb ga
   obtain ⟨y0,y1,y2,y3,y4,y5⟩:=Ya5 hb
   have hr1:=hmid.row.later ga
   have HR1:=Lib.hid hr1
   have HG1:=Lib.hid (Yaa hg (Yam ga (some g)))
   rcases List.eq_nil_or_concat (jnK f0 k) with e|⟨X,p,e⟩
   ·have hm0:m=0:=by rw [← hml,e];rfl
    subst hm0
    have happ:jnK f0 (k+1)=jnK f0 k++[f0 k]:=by
     show jSK (jnK f0 k) (f0 k)=_
     rw [e];rfl
    have HAPP:=Lib.hid happ
    have HAPP2:=Lib.hid happ
    have h0n:0<n:=by omega
    clear happ e hx hxk hmid hr1 hxs
    go_wp2_with (at_builtin;go_must (refine Ydt HR1.out h0n ⟨⟨x0,x1,_,x3,x4⟩,xa,xm,xc,xd⟩ rfl _ _ rfl rfl rfl ?_);intro w8 hrow8 hg8)
    go_roundw
    case rel=>exact ⟨k+1,_,by omega,by go_num,rfl,by rw [HAPP.out,List.length_append,hml];rfl,Lib.hid ⟨_,HMID.out.app (g:=g) (by omega) HAPP2.out (by rw [hml,HX.out];exact hrow8)⟩,Yaa HG1.out hg8⟩
    case measure=>simp [intOf];omega
   ·rw [List.concat_eq_append] at e
    obtain ⟨z,hz⟩:∃ z,X.length=z:=⟨_,rfl⟩
    have hm1:m=z+1:=by rw [← hml,e,List.length_append,hz];rfl
    subst hm1
    have hpm:(jnK f0 k).getD z default=p:=by rw [e,← hz,List.getD_eq_getElem?_getD,List.getElem?_append_right (Nat.le_refl _),Nat.sub_self];rfl
    have hfp:f z=p:=by rw [hmid.out z (by rw [hml];omega),hpm]
    have hlast:(jnK f0 k).getLast?=some p:=by rw [e,List.getLast?_concat]
    obtain ⟨d0,d1,d2,d3,d4,d5⟩:=hr1.cells (k:=z) (by omega)
    have hps:p.b.s≤n*10000000:=by
     have:=HSZ.out k (by rw [bsF_len];omega) p.b (by rw [← jnK_map f0 n k (by omega)];exact List.mem_map_of_mem (by rw [e];simp))
     exact Nat.le_trans this (Nat.mul_le_mul_right _ hk)
    rw [hfp] at d0 d1 d2 d3 d4 d5
    have hzn:(z:Int)<((z+1:Nat):Int):=by omega
    have w1:IntKind.i64.wrap (((z+1:Nat):Int) - 1)=(z:Nat):=by rw [IntKind.wrap_i64];omega
    have hst:jSK (jnK f0 k) (f0 k)=if p.b.u=false∧(f0 k).b.u=false then (jnK f0 k).dropLast++[{ p with b:=⟨p.b.off,p.b.s+(f0 k).b.s,p.b.u,p.b.o,p.b.n⟩ }] else jnK f0 k++[f0 k]:=by
     unfold jSK;rw [hlast]
    have HLAST:=Lib.hid hlast
    obtain ⟨p',hp'⟩:∃ p',p=p':=⟨_,rfl⟩
    obtain ⟨⟨p0,p1,p2,p3,p4⟩,pa,pm,pc,pd⟩:=p
    simp only at d0 d1 d2 d3 d4 d5 hps
    by_cases hpu:p2=true
    ·subst hpu
     have happ:jnK f0 (k+1)=jnK f0 k++[f0 k]:=by
      show jSK (jnK f0 k) (f0 k)=_
      rw [hst,if_neg (fun h=>by cases h.1)]
     have HAPP:=Lib.hid happ
     have HAPP2:=Lib.hid happ
     have hzl:z+1<n:=by omega
     clear happ e hx hxk hmid hr1 hxs hst hpm hfp hlast hp' hps
     go_wp2_with (at_builtin;go_must (refine Ydt HR1.out (m:=z+1) hzl ⟨⟨x0,x1,_,x3,x4⟩,xa,xm,xc,xd⟩ rfl _ _ rfl rfl rfl ?_);intro w8 hrow8 hg8)
     go_roundw
     case rel=>exact ⟨k+1,_,by omega,by go_num,rfl,by rw [HAPP.out,List.length_append,hml];rfl,Lib.hid ⟨_,HMID.out.app (g:=g) (by omega) HAPP2.out (by rw [hml,HX.out];exact hrow8)⟩,Yaa HG1.out hg8⟩
     case measure=>simp [intOf];omega
    ·obtain rfl:p2=false:=by cases p2 with|true=>exact absurd rfl hpu|false=>rfl
     by_cases hxu:x2=true
     ·subst hxu
      have happ:jnK f0 (k+1)=jnK f0 k++[f0 k]:=by
       show jSK (jnK f0 k) (f0 k)=_
       rw [hst,if_neg (fun h=>by rw [hx] at h;cases h.2)]
      have HAPP:=Lib.hid happ
      have HAPP2:=Lib.hid happ
      have hzl:z+1<n:=by omega
      clear happ e hx hxk hmid hr1 hxs hst hpm hfp hlast hp' hps
      go_wp2_with (at_builtin;go_must (refine Ydt HR1.out (m:=z+1) hzl ⟨⟨x0,x1,_,x3,x4⟩,xa,xm,xc,xd⟩ rfl _ _ rfl rfl rfl ?_);intro w8 hrow8 hg8)
      go_roundw
      case rel=>exact ⟨k+1,_,by omega,by go_num,rfl,by rw [HAPP.out,List.length_append,hml];rfl,Lib.hid ⟨_,HMID.out.app (g:=g) (by omega) HAPP2.out (by rw [hml,HX.out];exact hrow8)⟩,Yaa HG1.out hg8⟩
      case measure=>simp [intOf];omega
     ·obtain rfl:x2=false:=by cases x2 with|true=>exact absurd rfl hxu|false=>rfl
      obtain ⟨z1,hz1⟩:∃ z1,p1+x1=z1:=⟨_,rfl⟩
      have w2:IntKind.u64.wrap ((p1:Int)+(x1:Int))=(z1:Nat):=by rw [IntKind.wrap_u64];omega
      have hu2:p'.b.u=false∧(f0 k).b.u=false:=⟨by rw [← hp'],by rw [hx]⟩
      have HU:=Lib.hid hu2
      have HP:=Lib.hid hp'
      have HFP:Hid (f z=⟨⟨p0,p1,false,p3,p4⟩,pa,pm,pc,pd⟩):=Lib.hid hfp
      have HE:=Lib.hid hz1
      have HLST:Hid ((jnK f0 k).getLast?=some p'):=Lib.hid (by rw [hlast,hp'])
      have HNX:Hid ((jnK f0 (k+1)).length=z+1):=Lib.hid (by
       show (jSK (jnK f0 k) (f0 k)).length=_
       rw [hst,if_pos ⟨rfl,by rw [hx]⟩,List.length_append,List.length_dropLast,hml];rfl)
      have hzn2:z<n:=by omega
      clear e hx hxk hmid hr1 hxs hst hpm hfp hlast hp' hps hu2 hz1 ga
      have s1:=HR1.out.frz (z*6+1)
      go_wp2
      have hzz:(z:Int)<(z:Int)+1:=by omega
      have q1:W1.drew.cell? ⟨g,z*6+1,none⟩=some (.int .u64 p1):=d1
      have q2:W1.drew.cell? ⟨wr.heap.size,1,none⟩=some (.int .u64 x1):=y1
      have q3:W1.drew.frozen? ⟨g,z*6+1,none⟩=false:=s1
      go_region_law (fail)
      all_goals
       go_wp2
       go_roundw
       case rel=>exact ⟨k+1,_,by omega,by go_num,rfl,HNX.out,Lib.hid ⟨_,HMID.out.add (g:=g) (by omega) HLST.out HU.out (by
        rw [hml,HX.out,← HP.out]
        show RowF _ g cap n (updK f z ⟨⟨p0,p1+x1,false,p3,p4⟩,pa,pm,pc,pd⟩)
        rw [HE.out]
        exact RowF.later ((HR1.out).set (i:=1) hzn2 (by decide) (by rw [HFP.out];rfl)) (Yah (Yag _ _)))⟩,Yaa HG1.out (Yaa (Yac _ _ _ _) (Yam (Yah (Yag _ _)) _))⟩
       case measure=>simp [intOf];omega
  ·obtain rfl:k=n:=by omega
   have h1':¬ (k:Int)<(k:Int):=by omega
   have hbx:=HBX.out wr hg
   obtain ⟨e0,e1,e2⟩:wr.cell? ⟨P,0,none⟩=some (.int .u64 (all:Nat))∧wr.cell? ⟨P,1,none⟩=some (.slice (some ⟨g,0,none⟩) k cap)∧wr.cell? ⟨P,2,none⟩=some mv:=by
    refine ⟨?_,?_,?_⟩ <;> simp [World.cell?,hbx,stC]
   have hfr:wr.frozen? ⟨P,1,none⟩=false:=by simp [World.frozen?,hbx]
   have hmc:(m:Int)≤(cap:Int):=by omega
   have hmk':(m:Int)≤(k:Int):=by omega
   have hrow:=HMID.out.row
   have HROW:=Lib.hid hrow
   have hkc:k≤cap:=hcn
   have hmkn:m≤k:=hmk
   have HOUT:=Lib.hid HMID.out.out
   have HML:=Lib.hid hml
   clear hrow hmid
   by_cases hcm:cap=m
   ·have hqm:¬ m<k:=by omega
    go_wp2_with ((refine wpList_clear_kb (m:=m) HROW.out hmkn rfl _ rfl rfl ?_ ?_);(intro hqq;first|rfl|(exfalso;omega));intro w5 hr5 hg5;have hbx5:=HBX.out w5 (Yaa hg hg5);obtain ⟨e0,e1,e2⟩:w5.cell? ⟨P,0,none⟩=some (.int .u64 (all:Nat))∧w5.cell? ⟨P,1,none⟩=some (.slice (some ⟨g,0,none⟩) k cap)∧w5.cell? ⟨P,2,none⟩=some mv:=(by refine ⟨?_,?_,?_⟩ <;> simp [World.cell?,hbx5,stC]);have hfr:w5.frozen? ⟨P,1,none⟩=false:=(by simp [World.frozen?,hbx5]))
    go_end0
    refine ⟨rfl,?_,?_⟩
    ·rw [HML.out]
     refine ⟨f,⟨?_,?_⟩,fun j hj=>HOUT.out j (by rw [HML.out];exact hj)⟩
     ·rw [Yar hbx5];rfl
     ·rw [hcm] at hr5;exact (hr5.other hbx5 (by decide) (Yac _ _ _ _))
    ·exact Ybx (Ybm (Yaa hg hg5) (fun i h=>.inr (by injection h with h;exact h.symm))) (Ybm (Yac _ _ _ _) (p:=fun i=>i=P∨i=g) (fun i h=>.inl (by injection h with h;exact h.symm))) (fun i h=>.inl h)
   ·go_wp2_with ((refine wpList_clear_kb (m:=m) HROW.out hmkn rfl _ rfl rfl ?_ ?_);(intro hqq;first|rfl|(exfalso;omega));intro w5 hr5 hg5;have hbx5:=HBX.out w5 (Yaa hg hg5);obtain ⟨e0,e1,e2⟩:w5.cell? ⟨P,0,none⟩=some (.int .u64 (all:Nat))∧w5.cell? ⟨P,1,none⟩=some (.slice (some ⟨g,0,none⟩) k cap)∧w5.cell? ⟨P,2,none⟩=some mv:=(by refine ⟨?_,?_,?_⟩ <;> simp [World.cell?,hbx5,stC]);have hfr:w5.frozen? ⟨P,1,none⟩=false:=(by simp [World.frozen?,hbx5]))
    go_end0
    refine ⟨rfl,?_,?_⟩
    ·rw [HML.out]
     refine ⟨f,⟨?_,?_⟩,fun j hj=>HOUT.out j (by rw [HML.out];exact hj)⟩
     ·rw [Yar hbx5];rfl
     ·exact (hr5.other hbx5 (by decide) (Yac _ _ _ _))
    ·exact Ybx (Ybm (Yaa hg hg5) (fun i h=>.inr (by injection h with h;exact h.symm))) (Ybm (Yac _ _ _ _) (p:=fun i=>i=P∨i=g) (fun i h=>.inl (by injection h with h;exact h.symm))) (fun i h=>.inl h)
end
end
section
def KB.free (x:KB):KB:=⟨Ya4 x.b.off x.b.s,none,0,0,[]⟩
section
variable {w w':World} {P g cap n all i:Nat} {f:Nat→KB} {mv:Value} {lv:Nat→Bool}
theorem StB.turn (h:StB w P g cap n all f mv lv) {f':Nat→KB} (hr:RowF w' g cap n f') (hg:w.grownBy w' (some g)) (hPg:P≠g):StB w' P g cap n all f' mv lv :=
 ⟨(hg.block _ (lt_of_block h.box) (fun e=>hPg (by injection e))).trans h.box,hr⟩
set_option maxHeartbeats 4000000 in
theorem release_any (h:StB w P g cap n all f mv lv) (hn:n≤1000) (hS:∀ j,j<n→(f j).b.s≤10000000) (hPg:P≠g) (hi:i<n) :
  Calls Tryz.prog 93 #[.pointer (some ⟨P,0,none⟩),.int .i64 i] w fun e w'=>e=.returned (.tuple #[])∧∃ V,w.grownBy V (some g)∧Mrg V w' P g cap n all (updK f i (f i).free) mv lv:=by
 have hm:=fun (V:World) (hV:StB V P g cap n all (updK f i (f i).free) mv lv)=>merge_any hV hn (fun j hj=>by
  unfold updK
  split
  ·exact hS i hi
  ·exact hS j hj) hPg
 have hi':(i:Int)<(n:Int):=by omega
 have HH:=Lib.hid h
 have HM:=Lib.hid hm
 have hcell:∀ V:World,w.grownBy V none→(V.cell? ⟨P,1,none⟩=some (.slice (some ⟨g,0,none⟩) n cap))∧_:=fun V hV=>⟨(h.later hV).cells.2.1,(h.later hV).row.cells hi⟩
 have HC:=Lib.hid hcell
 obtain ⟨x,hx⟩:∃ x,f i=x:=⟨_,rfl⟩
 rw [hx] at HC HM
 have HX:=Lib.hid hx
 have HG:w.grownBy w.drew none:=Yah (Yag _ _)
 obtain ⟨a1,b0,b1,b2,b3,b4,b5⟩:=HC.out _ HG
 clear h hS hm hcell hx
 obtain ⟨⟨x0,x1,x2,x3,x4⟩,xa,xm,xc,xd⟩:=x
 simp only at b0 b1 b2 b3 b4 b5
 have hsp:=fun V=>spare_any ⟨⟨x0,x1,x2,x3,x4⟩,xa,xm,xc,xd⟩ V
 simp only at hsp
 go_enter Tryz.func93,Tryz.ntmps93
 go_wp2
 go_region_law (first|(go_simp;go_at_call 39;go_must ((with_reducible refine (hsp _).mono ?_);rintro e w2 ⟨rfl,hg2⟩;replace HG:=Yaa HG hg2;obtain ⟨a1,b0,b1,b2,b3,b4,b5⟩:=HC.out _ HG;have hF:=HH.out.row.later HG;have f0:=hF.frz (i*6);have f1:=hF.frz (i*6+1);have f2:=hF.frz (i*6+2);have f3:=hF.frz (i*6+3);have f4:=hF.frz (i*6+4);have f5:=hF.frz (i*6+5))))
 all_goals
  have hrow:=hF.put hi (KB.free ⟨⟨x0,x1,x2,x3,x4⟩,xa,xm,xc,xd⟩)
  have hg6:=put6_grown w2 g i (.int .u64 (x0:Nat)) (.int .u64 (x1:Nat)) (.bool false) (.int .i64 0) (.int .u64 0) (.slice none 0 0)
  unfold KB.free Ya4 at hrow
  simp only at hrow
  replace hrow:RowF ((((((w2.setCell ⟨g,i*6,none⟩ (.int .u64 (x0:Nat))).setCell ⟨g,i*6+1,none⟩ (.int .u64 (x1:Nat))).setCell ⟨g,i*6+2,none⟩ (.bool false)).setCell ⟨g,i*6+3,none⟩ (.int .i64 0)).setCell ⟨g,i*6+4,none⟩ (.int .u64 0)).setCell ⟨g,i*6+5,none⟩ (.slice none 0 0)) g cap n (updK f i (KB.free ⟨⟨x0,x1,x2,x3,x4⟩,xa,xm,xc,xd⟩)):=hrow
  obtain ⟨W5,hW5⟩:∃ W5,((((((w2.setCell ⟨g,i*6,none⟩ (.int .u64 (x0:Nat))).setCell ⟨g,i*6+1,none⟩ (.int .u64 (x1:Nat))).setCell ⟨g,i*6+2,none⟩ (.bool false)).setCell ⟨g,i*6+3,none⟩ (.int .i64 0)).setCell ⟨g,i*6+4,none⟩ (.int .u64 0)).setCell ⟨g,i*6+5,none⟩ (.slice none 0 0))=W5:=⟨_,rfl⟩
  rw [hW5] at hrow hg6 ⊢
  have hmm:=HM.out W5 ((HH.out.later HG).turn hrow hg6 hPg)
  clear hW5 a1 b0 b1 b2 b3 b4 b5 f0 f1 f2 f3 f4 f5
  have HGG:=Lib.hid (Yaa (Yam HG (some g)) hg6)
  go_wp2_with (go_at_call 40;go_must ((with_reducible refine hmm.mono ?_);rintro e w3 ⟨rfl,hM⟩))
  go_end0
  exact ⟨rfl,W5,HGG.out,by rw [HX.out];exact hM⟩
end
end
end Go.Proofs.YtfhiljglfhekdaaGreat
