/-
  Package resize: the contract of Resize over a heap whose words tell its blocks, the tree of the free ones, and the lists.
  Conditions: the Tx stands in memory, over a segment of 4800 bytes, and its words tell such a heap.
-/
import Derived.Test.YtcbdbflgfhbikaaGreatResI
import Derived.Test.YtcbdbflgfhbikaaGreatResJ
namespace Go.Proofs.YtcbdbflgfhbikaaGreat
open Go.RowKit
set_option linter.unusedVariables false
set_option linter.unusedSimpArgs false
set_option maxRecDepth 100000

section
variable {w0 w w':World} {T:Nat} {R R':Option Nat} {ws:List Nat} {E p k n i:Nat} {bs:List Blk} {L:Nat→List Nat} {f:Nat→Nat}
theorem rzw_same (hE:rzE bs p n≠0):RzW bs p n f f:=⟨fun _=>Held.refl,fun _ _=>Held.refl,fun i _ h0=>absurd h0 hE⟩
/-- the block, as it is found -/
theorem hf_find (h:HF w0 w T R ws E bs L f) (hf:fstN (pF p) bs=some i):∀ V,w.grownBy V none→Calls Tryz.prog 14 #[.pointer (some ⟨T,0,none⟩),.int .u64 (p:Nat)] V fun e w'=>e=.returned (.tuple #[.agg #[.int .u64 ((bs.getD i default).off:Nat),.int .u64 ((bs.getD i default).s:Nat),.bool true,.int .i64 (bs.getD i default).o,.int .u64 ((bs.getD i default).n:Nat)],.bool true])∧V.grownBy w' none:=fun V hg=>by
 have:=hw_find_some (h.later hg).heap hf
 obtain ⟨_,hu,_⟩:=pF_some hf
 unfold Blk.val at this
 rw [hu] at this
 exact this
theorem lenB_is (hi:i<bs.length):lenB bs i n=bs.take i++⟨(bs.getD i default).off,(bs.getD i default).s,(bs.getD i default).u,(bs.getD i default).o,n⟩::bs.drop (i+1)∧(bs.take i).length=i :=
 ⟨rfl,by rw [List.length_take];omega⟩
theorem lenB_get (hi:i<bs.length):(lenB bs i n).getD i default=⟨(bs.getD i default).off,(bs.getD i default).s,(bs.getD i default).u,(bs.getD i default).o,n⟩:=by
 obtain ⟨e,hl⟩:=lenB_is (n:=n) hi
 rw [e,List.getD_eq_getElem?_getD,List.getElem?_append_right (by omega),hl,Nat.sub_self]
 rfl
theorem lenB_fst (h:fstN (pF p) bs=some i):fstN (pF p) (lenB bs i n)=some i:=by
 obtain ⟨hi,_,_⟩:=pF_some h
 obtain ⟨e,hl⟩:=lenB_is (n:=n) hi
 rw [e]
 have h2:fstN (pF p) (bs.take i++bs.getD i default::bs.drop (i+1))=some (bs.take i).length:=by rw [← bs_amid hi,hl];exact h
 have h3:=fst_swap (b:=bs.getD i default) (b':=⟨(bs.getD i default).off,(bs.getD i default).s,(bs.getD i default).u,(bs.getD i default).o,n⟩) rfl h2
 rw [h3,hl]
/-- Resized where it stands. -/
theorem rzin_hf (h:HF w0 w T R ws E bs L f) (hf:fstN (pF p) bs=some i) (h18:¬ 18446744073709551560<n) (hle:needOf n≤gS bs i) :
  Calls Tryz.prog 10 #[.pointer (some ⟨T,0,none⟩),.int .u64 (p:Nat),.int .u64 (n:Nat)] w fun e w'=>e=.returned (.tuple #[.int .u64 (p:Nat),.int .i64 0])∧∃ R' f',HF w0 w' T R' ws E (ctB (lenB bs i n) p (needOf n)) L f'∧RzW bs p n f f'∧Keep w R w' R':=by
 have hS:=h.sound
 obtain ⟨hi,hu,_⟩:=pF_some hf
 have hp:=hS.pay hf
 have hbi:=hS.told.is _ (getB_mem hi)
 have hm:=may_bounds hbi.may
 have hhi:=hbi.hi
 have hlow:=hS.low
 have hsz:=hbi.size
 have hal:=hbi.al
 have hlen:=hbi.len
 rw [if_pos hu] at hlen
 have hnb:=need_bounds n
 have hle':needOf n≤(bs.getD i default).s:=hle
 have hg:=lenB_get (n:=n) hi
 have hff:=lenB_fst (n:=n) hf
 have hmem:(⟨(bs.getD i default).off,(bs.getD i default).s,(bs.getD i default).u,(bs.getD i default).o,n⟩:Blk)∈lenB bs i n:=by rw [(lenB_is hi).1];simp
 have hfind:=hf_find h hf
 obtain ⟨m,hmx⟩:∃ m,((bs.getD i default).n+7) / 8+m=max (((bs.getD i default).n+7) / 8) ((n+7) / 8):=⟨max (((bs.getD i default).n+7) / 8) ((n+7) / 8) - ((bs.getD i default).n+7) / 8,by omega⟩
 refine (rzin_walk (O:=(bs.getD i default).off) (S:=(bs.getD i default).s) (N:=(bs.getD i default).n) (o:=(bs.getD i default).o) (p:=p) (n:=n) (need:=needOf n) (c:=((bs.getD i default).n+7) / 8) (d:=(n+7) / 8)
  (G1:=fun V R1=>HF w0 V T R1 ws E (lenB bs i n) L (putF f ((bs.getD i default).off+8) n))
  (G2:=fun V R2=>∃ f2,HF w0 V T R2 ws E (lenB bs i n) L f2∧∀ x,f2 x=if p+8*(((bs.getD i default).n+7) / 8)≤x∧x<p+8*(((bs.getD i default).n+7) / 8+m)∧x % 8=0 then 0 else putF f ((bs.getD i default).off+8) n x)
  (G3:=fun V R3=>∃ f3,HF w0 V T R3 ws E (ctB (lenB bs i n) p (needOf n)) L f3∧RzW bs p n f f3)
  h.ltR ⟨hle',by omega⟩ hfind (fun V=>need_fits n (by omega) V) (fun V=>words_any _ (by omega) V) (fun V=>words_any _ (by omega) V) ?st ?ea ?cut).mono ?fin
 case st =>
  intro V hgr
  refine (hf_store (h.later hgr) (x:=(bs.getD i default).off+8) (v:=n) (bs':=lenB bs i n) (L':=L) (by omega) (by omega) (by omega) ?_).mono fun e w' h1=>h1
  have hb:=bs_amid hi
  have hS':SoundF f E (bs.take i++bs.getD i default::bs.drop (i+1)) L:=by rw [← hb];exact hS
  rw [(lenB_is (n:=n) hi).1]
  exact relen_sound hS' hu (by omega) (by omega) (if_pos rfl) fun x hx _=>if_neg hx
 case ea =>
  intro V R1 tb pb hG ht hb
  refine (zero_any hG hmem hu hp hmx (by show p+8*((n+7) / 8)≤(bs.getD i default).off+(bs.getD i default).s - 8;omega) (by omega) ht hb).mono ?_
  rintro e w' ⟨rfl,R',f2,h2,hz,K⟩
  exact ⟨rfl,R',⟨f2,h2,hz⟩,K⟩
 case cut =>
  rintro V R1 ⟨f2,h2,hz⟩
  have hck:cutOk ((lenB bs i n).getD i default) (needOf n):=by rw [hg];exact ⟨hnb.1,Nat.le_refl _,hle'⟩
  refine (ct_hf h2 hff hck).mono ?_
  rintro e w' ⟨rfl,R',f3,h3,hh,hk,K⟩
  have hgo:gO bs i=(bs.getD i default).off:=rfl
  have hgn:gN bs i=(bs.getD i default).n:=rfl
  refine ⟨rfl,R',⟨f3,h3,fin_in hS hf h18 hle (f1:=f2) (fun x h1 h4=>?_) (fun j hj=>?_) hh hk⟩,K⟩
  ·rw [hz,if_neg (by omega)]
   unfold putF
   rw [if_neg (by omega)]
  ·rw [hz,hgn]
   unfold putF
   by_cases hjc:j<((bs.getD i default).n+7) / 8
   ·rw [if_pos hjc,if_neg (by omega),if_neg (by omega)]
   ·rw [if_neg hjc,if_pos (by omega)]
 case fin =>
  rintro e w' ⟨rfl,R',⟨f3,h3,hw⟩,K⟩
  exact ⟨rfl,R',f3,h3,hw,K⟩
/-- Taken anew, the words moved, the old block freed; or there is no room. -/
theorem move_hf (h:HF w0 w T R ws E bs L f) (hf:fstN (pF p) bs=some i) (h18:¬ 18446744073709551560<n) (hle:¬ needOf n≤gS bs i) :
  Calls Tryz.prog 30 #[.pointer (some ⟨T,0,none⟩),.agg #[.int .u64 ((bs.getD i default).off:Nat),.int .u64 ((bs.getD i default).s:Nat),.bool true,.int .i64 (bs.getD i default).o,.int .u64 ((bs.getD i default).n:Nat)],.int .u64 (n:Nat)] w fun e w'=>e=.returned (.tuple #[.int .u64 (rzP bs p n:Nat),.int .i64 (rzE bs p n:Nat)])∧∃ R',(∃ f',HF w0 w' T R' ws E (rzB bs p n) (rzL bs L p n) f'∧RzW bs p n f f')∧Keep w R w' R':=by
 have hS:=h.sound
 obtain ⟨hi,hu,_⟩:=pF_some hf
 have hp:=hS.pay hf
 have hbi:=hS.told.is _ (getB_mem hi)
 have hm:=may_bounds hbi.may
 have hhi:=hbi.hi
 have hlow:=hS.low
 have hsz:=hbi.size
 have hal:=hbi.al
 have hlo:=hbi.lo
 have hlen:=hbi.len
 rw [if_pos hu] at hlen
 have hle':¬ needOf n≤(bs.getD i default).s:=hle
 obtain ⟨ow,how⟩:∃ ow:Nat,(bs.getD i default).o=(ow:Int):=⟨_,(Int.toNat_of_nonneg hm.2.2.2.1).symm⟩
 have how8:ow≤8:=by have:=hm.2.2.2.2.1;omega
 have hoN:(gW bs i).toNat=ow:=by
  show ((bs.getD i default).o).toNat=ow
  rw [how]
  rfl
 have htk:=fun (V:World) (hg:w.grownBy V none)=>tk_hf (n:=n) (owner:=ow) (h.later hg) (by omega) how8
 cases hq:fitM bs n 16 with
 | none =>
  have hE:rzE bs p n=3:=by unfold rzE tkE;rw [hf];dsimp only;rw [if_neg h18,if_neg hle,hq]
  have hP:rzP bs p n=0:=by unfold rzP tkP;rw [hf];dsimp only;rw [if_neg h18,if_neg hle,hq]
  have hB:rzB bs p n=bs:=by unfold rzB;rw [hf];dsimp only;rw [if_neg h18,if_neg hle,hq]
  have hL:rzL bs L p n=L:=by unfold rzL;rw [hf];dsimp only;rw [if_neg h18,if_neg hle,hq]
  have hW:RzW bs p n f f:=rzw_same (by rw [hE];decide)
  rw [hE,hP,hB,hL]
  unfold tkP tkE tkB tkL at htk
  rw [hq] at htk
  dsimp only at htk
  rw [how]
  have hbad:=fun (V:World) (hg:w.grownBy V none)=>hw_take_bad (h.later hg).heap (owner:=(ow:Int)) (n:=n) (a:=16) (by omega) (by omega) (by omega) (by omega) (fitErr_none (.inl rfl) (by omega) hq) (by decide)
  refine (move_no (R:=R) (er:=3) (p:=p) (G1:=fun V R1=>HF w0 V T R1 ws E bs L f) (by decide) hp (by omega) (fun V hg=>?_) (fun V V' R1 h1 hg=>h1.later hg)).mono ?_
  ·refine (hbad V hg).mono ?_
   rintro e w' ⟨rfl,hg1⟩
   exact ⟨rfl,R,h.later (grown_trans hg hg1),Keep.of_grown hg1⟩
  ·rintro e w' ⟨rfl,R',h1,K⟩
   exact ⟨rfl,R',⟨f,h1,hW⟩,K⟩
 | some j =>
  have hne:fitM bs n 16≠none:=by rw [hq];exact fun e=>by cases e
  have hE:rzE bs p n=0:=by unfold rzE tkE;rw [hf];dsimp only;rw [if_neg h18,if_neg hle,hq]
  have hP:rzP bs p n=tkP bs n 16:=by unfold rzP;rw [hf];dsimp only;rw [if_neg h18,if_neg hle]
  have hB:rzB bs p n=frB (tkB bs ow n 16) p:=by unfold rzB;rw [hf];dsimp only;rw [if_neg h18,if_neg hle,hq,hoN]
  have hL:rzL bs L p n=frL (tkB bs ow n 16) (tkL bs L ow n 16) p:=by unfold rzL;rw [hf];dsimp only;rw [if_neg h18,if_neg hle,hq,hoN]
  rw [hE,hP,hB,hL,how]
  obtain ⟨s,hmem,g1,g2,g3,g4⟩:=new_taken (o:=ow) hS hf hne
  have htE:tkE bs n 16=0:=by unfold tkE;rw [hq]
  rw [htE] at htk
  obtain ⟨q,eq⟩:∃ q,tkP bs n 16=q:=⟨_,rfl⟩
  have hfo:=hS
  rw [eq] at hmem g1 g2 g3 htk ⊢
  obtain ⟨N,hN⟩:∃ N,(bs.getD i default).n=N:=⟨_,rfl⟩
  have hgn:gN bs i=N:=hN
  rw [hN] at hlen ⊢
  refine (move_ok (p:=p) (q:=q) (m:=(N+7) / 8)
   (G1:=fun V R1=>∃ f1,HF w0 V T R1 ws E (tkB bs ow n 16) (tkL bs L ow n 16) f1∧Held f f1 bs∧∀ j,j<(n+7) / 8→f1 (q+8*j)=0)
   (G2:=fun V R2=>∃ f1 f2,HF w0 V T R2 ws E (tkB bs ow n 16) (tkL bs L ow n 16) f2∧SoundF f1 E (tkB bs ow n 16) (tkL bs L ow n 16)∧Held f f1 bs∧(∀ j,j<(n+7) / 8→f1 (q+8*j)=0)∧∀ x,f2 x=if q≤x∧x<q+8*((N+7) / 8)∧x % 8=0 then f1 (p+(x - q)) else f1 x)
   (G3:=fun V R3=>∃ f',HF w0 V T R3 ws E (frB (tkB bs ow n 16) p) (frL (tkB bs ow n 16) (tkL bs L ow n 16) p) f'∧RzW bs p n f f')
   h.ltR hp (by omega) ?tk ?later ?ltr (fun V=>words_any N (by omega) V) ?ea ?fr)
  case tk =>
   intro V hg
   refine (htk V hg).mono ?_
   rintro e w' ⟨rfl,R',f1,h1,hh,hz,K⟩
   exact ⟨rfl,R',⟨f1,h1,hh,hz hne⟩,K⟩
  case later =>
   rintro V V' R1 ⟨f1,h1,h2,h3⟩ hg
   exact ⟨f1,h1.later hg,h2,h3⟩
  case ltr =>
   rintro V R1 ⟨f1,h1,_,_⟩
   exact h1.ltR
  case ea =>
   rintro V R1 tb qb pb ⟨f1,h1,hh,hz⟩ ht hb hqb
   have hnew:=h1.sound.told.is _ hmem
   obtain ⟨i',hf',hget⟩:=fst_old (o:=ow) (n:=n) hS hf h1.sound
   obtain ⟨hi',_,_⟩:=pF_some hf'
   have hold:=getB_mem hi'
   rw [hget] at hold
   have hsep:=h1.sound.told.sep hold hmem (by show (bs.getD i default).off≠q - 32;omega)
   simp only at hsep
   refine (moved_any (m:=(N+7) / 8) h1 hmem rfl (by show q=q - 32+32;omega) (by show q+8*((N+7) / 8)≤q - 32+s - 8;omega) (by omega) (by omega) (by omega) ht hb hqb).mono ?_
   rintro e w' ⟨rfl,R',f2,h2,hx,K⟩
   exact ⟨rfl,R',⟨f1,f2,h2,h1.sound,hh,hz,hx⟩,K⟩
  case fr =>
   rintro V R1 ⟨f1,f2,h2,hs1,hh,hz,hx⟩
   obtain ⟨i',hf',hget⟩:=fst_old (o:=ow) (n:=n) hS hf hs1
   refine (fr_hf h2 hf').mono ?_
   rintro e w' ⟨rfl,R',f3,h3,hd,K⟩
   refine ⟨rfl,R',⟨f3,h3,fin_out (o:=ow) (f1:=f1) (f2:=f2) hS hf h18 hle hne hs1 hh (by rw [eq];exact hz) (fun x h4=>?_) (fun j hj=>?_) hf' hd⟩,K⟩
   ·rw [eq,hgn] at h4
    rw [hx,if_neg (by omega)]
   ·rw [hgn] at hj
    have hq16:=(hs1.told.is _ hmem).al
    simp only at hq16
    rw [eq,hx,if_pos (by omega),show p+(q+8*j - q)=p+8*j by omega]
theorem rz_hf (h:HF w0 w T R ws E bs L f) (p n:Nat) (hp64:p<18446744073709551616) (hn64:n<18446744073709551616) :
  Calls Tryz.prog 10 #[.pointer (some ⟨T,0,none⟩),.int .u64 p,.int .u64 n] w fun e w'=>e=.returned (.tuple #[.int .u64 (rzP bs p n:Nat),.int .i64 (rzE bs p n:Nat)])∧∃ R' f',HF w0 w' T R' ws E (rzB bs p n) (rzL bs L p n) f'∧RzW bs p n f f'∧Keep w R w' R':=by
 cases hf:fstN (pF p) bs with
 | none =>
  have hE:rzE bs p n=4:=by unfold rzE;rw [hf]
  have hP:rzP bs p n=0:=by unfold rzP;rw [hf]
  have hB:rzB bs p n=bs:=by unfold rzB;rw [hf]
  have hL:rzL bs L p n=L:=by unfold rzL;rw [hf]
  have hW:RzW bs p n f f:=rzw_same (by rw [hE];decide)
  rw [hE,hP,hB,hL]
  refine (rz_none (fun V hg=>hw_find_none (h.later hg).heap hf)).mono ?_
  rintro e w' ⟨rfl,hg⟩
  exact ⟨rfl,R,f,h.later hg,hW,Keep.of_grown hg⟩
 | some i =>
  by_cases h18:18446744073709551560<n
  ·have hE:rzE bs p n=2:=by unfold rzE;rw [hf];dsimp only;rw [if_pos h18]
   have hP:rzP bs p n=0:=by unfold rzP;rw [hf];dsimp only;rw [if_pos h18]
   have hB:rzB bs p n=bs:=by unfold rzB;rw [hf];dsimp only;rw [if_pos h18]
   have hL:rzL bs L p n=L:=by unfold rzL;rw [hf];dsimp only;rw [if_pos h18]
   have hW:RzW bs p n f f:=rzw_same (by rw [hE];decide)
   rw [hE,hP,hB,hL]
   refine (rz_size (hf_find h hf) (fun V=>need_high n hn64 (by omega) V)).mono ?_
   rintro e w' ⟨rfl,hg⟩
   exact ⟨rfl,R,f,h.later hg,hW,Keep.of_grown hg⟩
  ·by_cases hle:needOf n≤gS bs i
   ·have hE:rzE bs p n=0:=by unfold rzE;rw [hf];dsimp only;rw [if_neg h18,if_pos hle]
    have hP:rzP bs p n=p:=by unfold rzP;rw [hf];dsimp only;rw [if_neg h18,if_pos hle]
    have hB:rzB bs p n=ctB (lenB bs i n) p (needOf n):=by unfold rzB;rw [hf];dsimp only;rw [if_neg h18,if_pos hle]
    have hL:rzL bs L p n=L:=by unfold rzL;rw [hf];dsimp only;rw [if_neg h18,if_pos hle]
    rw [hE,hP,hB,hL]
    exact rzin_hf h hf h18 hle
   ·refine (rzout_walk (G1:=fun V R1=>∃ f',HF w0 V T R1 ws E (rzB bs p n) (rzL bs L p n) f'∧RzW bs p n f f') (need:=needOf n) (Nat.lt_of_not_le hle) (hf_find h hf) (fun V=>need_fits n (by omega) V) (fun V hg=>move_hf (h.later hg) hf h18 hle)).mono ?_
    rintro e w' ⟨rfl,R',⟨f',h1,h2⟩,K⟩
    exact ⟨rfl,R',f',h1,h2,K⟩
end
end Go.Proofs.YtcbdbflgfhbikaaGreat
