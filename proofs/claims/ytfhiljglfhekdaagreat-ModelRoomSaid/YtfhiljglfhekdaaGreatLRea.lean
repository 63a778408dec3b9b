/-
  Texts of one layer, one behind the other: memory, contracts of the functions, and what follows of them.
  Conditions: as each theorem says.
-/
import Derived.Test.YtfhiljglfhekdaaGreatLCaa
import Derived.Test.YtfhiljglfhekdaaGreatLWoa
import Derived.Test.YtfhiljglfhekdaaGreatLPha
import Derived.StillTailTactics
import Derived.BigQuiet
import Derived.Test.YtfhiljglfhekdaaGreatLTaa
import Derived.Deep.RegionHeld3
import Derived.Deep.QuietTactic
import Derived.Laws.StructEq
import Derived.Deep.AppendLies
import Derived.Laws.AppendOwnNone
import Derived.Test.YtfhiljglfhekdaaGreatLTxa
import Derived.RangeFuncCalls
import Derived.TacticsInMore
import Derived.OrdersIn
import Derived.Test.YtfhiljglfhekdaaGreatLSea
import Derived.Deep.LoopGhost
import Derived.Test.YtfhiljglfhekdaaGreatLHea
import Derived.Shelf.RegionOpen
import Derived.RangeFuncBox
import Derived.Test.YtfhiljglfhekdaaGreatLCla
import Derived.Test.YtfhiljglfhekdaaGreatLTra
import Derived.Sort.Grow
import Derived.Test.YtfhiljglfhekdaaGreatLCac
set_option linter.unusedVariables false
set_option linter.unusedSimpArgs false
set_option maxRecDepth 100000
namespace Go.Proofs.YtfhiljglfhekdaaGreat
open Go.RowKit
section
def Ycf (out:List Blk) (b:Blk):List Blk :=
 match out.getLast? with
 | some p=>if p.u=false∧b.u=false then out.dropLast++[⟨p.off,p.s+b.s,p.u,p.o,p.n⟩] else out++[b]
 | none=>out++[b]
def joinK (bs:List Blk):Nat→List Blk
 | 0=>[]
 | k+1=>Ycf (joinK bs k) (bs.getD k default)
def Ybs (bs:List Blk):List Blk:=bs.foldl Ycf []
theorem joinK_take (bs:List Blk):∀ k,k≤bs.length→joinK bs k=(bs.take k).foldl Ycf []
 | 0,_=>rfl
 | k+1,h=>by
  have hk:k<bs.length:=by omega
  rw [List.take_succ_eq_append_getElem hk,List.foldl_append,← joinK_take bs k (by omega)]
  show Ycf _ (bs.getD k default)=Ycf _ _
  rw [List.getD_eq_getElem?_getD,List.getElem?_eq_getElem hk]
  rfl
theorem joinK_all (bs:List Blk):joinK bs bs.length=Ybs bs:=by rw [joinK_take bs _ (Nat.le_refl _),List.take_length];rfl
theorem joinS_apart {out:List Blk} {b:Blk} (h:∀ p,out.getLast?=some p→p.u=true∨b.u=true):Ycf out b=out++[b]:=by
 unfold Ycf
 cases e:out.getLast? with
 | none=>rfl
 | some p =>
  dsimp only
  rw [if_neg]
  rintro ⟨h1,h2⟩
  rcases h p e with h3|h3
  ·rw [h1] at h3;cases h3
  ·rw [h2] at h3;cases h3
theorem Yex {out:List Blk} {p b:Blk} (hp:p.u=false) (hb:b.u=false):Ycf (out++[p]) b=out++[⟨p.off,p.s+b.s,p.u,p.o,p.n⟩]:=by
 unfold Ycf
 rw [List.getLast?_concat]
 dsimp only
 rw [if_pos ⟨hp,hb⟩,List.dropLast_concat]
theorem join_merged:∀ {r out:List Blk},Mg (out++r)→r.foldl Ycf out=out++r
 | [],out,_=>by simp
 | b::r,out,h=>by
  have h1:=Yc7.1 h
  have e:Ycf out b=out++[b]:=joinS_apart fun p hp=>h1.2.2 p b hp rfl
  rw [List.foldl_cons,e,join_merged (r:=r) (out:=out++[b]) (by simpa using h)]
  simp
theorem Ydq {bs:List Blk} (h:Mg bs):Ybs bs=bs:=join_merged (out:=[]) h
def lstB (L:Nat→List Nat) (b:Blk):Nat→List Nat:=if b.o=0 then L else setL L (b.o.toNat - 1) ((L (b.o.toNat - 1)).filter fun y=>decide (y≠b.off))
end
section
def cutOk (b:Blk) (k:Nat):Prop:=k % 16=0∧Yat b.n≤k∧k≤b.s
instance (b:Blk) (k:Nat):Decidable (cutOk b k):=by unfold cutOk;infer_instance
section
variable {w0 w:World} {T M:Nat} {R:Option Nat} {B D:Nat} {ws:List Nat} {l:List (Nat × Nat)} {E k:Nat} {bs A C:List Blk} {b:Blk} {L:Nat→List Nat} {f g h:Nat→Nat}
end
end
section
theorem own_put1 {w:World} {base g n cap size:Nat} {e:TypeId} {xs:List Value} (h:w.ownsRow base e size (.slice (some ⟨g,0,none⟩) n cap) n xs) (j:Nat) (u:Value):(w.setCell ⟨g,j,none⟩ u).ownsRow base e size (.slice (some ⟨g,0,none⟩) n cap) n (xs.set j u):=by
 refine ⟨by rw [List.length_set];exact h.1,?_⟩
 rcases h.2 with ⟨h1,_⟩|⟨g',cap',cur,hv,hb,hgg,h3,h4,h5,h6⟩
 ·cases h1
 ·injection hv with e1 e2 e3
  injection e1 with e1
  injection e1 with e1
  subst e1 e3
  refine .inr ⟨g,cap,cur.setIfInBounds j u,rfl,hb,Yar hgg u,h3,h4,by simp [h5],?_⟩
  rw [← h6]
  simp [List.take_set]
theorem cellsB_put {A C:List Blk} {p b:Blk}:(((((Yca (A++p::C)).set (A.length*5) (.int .u64 (b.off:Nat))).set (A.length*5+1) (.int .u64 (b.s:Nat))).set (A.length*5+2) (.bool b.u)).set (A.length*5+3) (.int .i64 b.o)).set (A.length*5+4) (.int .u64 (b.n:Nat))=Yca (A++b::C):=by
 have e:∀ q:Blk,Yca (A++q::C)=Yca A++(q.row++Yca C):=fun q=>by simp [Yca,List.flatMap_append]
 rw [e,e,← Ye1 A]
 rw [show (Yca A).length=(Yca A).length+0 from rfl]
 rw [List.set_append_right _ _ (by omega),List.set_append_right _ _ (by omega),List.set_append_right _ _ (by omega),List.set_append_right _ _ (by omega),List.set_append_right _ _ (by omega)]
 simp [Blk.row]
theorem ownB_put {w:World} {base g n cap:Nat} {t:TypeId} {A C:List Blk} {p:Blk} (b:Blk) (h:OwnB w base t (.slice (some ⟨g,0,none⟩) n cap) (A++p::C)) (hn:(A++p::C).length=n) {k:Nat} (hk:A.length=k) :
  OwnB (((((w.setCell ⟨g,k*5,none⟩ (.int .u64 (b.off:Nat))).setCell ⟨g,k*5+1,none⟩ (.int .u64 (b.s:Nat))).setCell ⟨g,k*5+2,none⟩ (.bool b.u)).setCell ⟨g,k*5+3,none⟩ (.int .i64 b.o)).setCell ⟨g,k*5+4,none⟩ (.int .u64 (b.n:Nat))) base t (.slice (some ⟨g,0,none⟩) n cap) (A++b::C):=by
 subst hk
 unfold OwnB at h ⊢
 rw [hn] at h
 rw [show (A++b::C).length=n by rw [← hn];simp,← cellsB_put (p:=p)]
 exact own_put1 (own_put1 (own_put1 (own_put1 (own_put1 h _ _) _ _) _ _) _ _) _ _
theorem Yd3 (w:World) (g k:Nat) (x y z p q:Value):w.grownBy (((((w.setCell ⟨g,k*5,none⟩ x).setCell ⟨g,k*5+1,none⟩ y).setCell ⟨g,k*5+2,none⟩ z).setCell ⟨g,k*5+3,none⟩ p).setCell ⟨g,k*5+4,none⟩ q) (some g) :=
 Yaa (Yac _ _ _ _) (Yaa (Yac _ _ _ _) (Yaa (Yac _ _ _ _) (Yaa (Yac _ _ _ _) (Yac _ _ _ _))))
theorem OwnB.spot {w:World} {base:Nat} {t:TypeId} {v:Value} {l:List Blk} (h:OwnB w base t v l) (h0:0<l.length):∃ g c,v=.slice (some ⟨g,0,none⟩) l.length c∧base≤g∧g<w.heap.size∧(∀ i,w.frozen? ⟨g,i,none⟩=false) ∧
  ∀ k,k<l.length→w.cell? ⟨g,k*5,none⟩=some (.int .u64 (gO l k:Nat))∧w.cell? ⟨g,k*5+1,none⟩=some (.int .u64 (gS l k:Nat))∧w.cell? ⟨g,k*5+2,none⟩=some (.bool (gU l k))∧w.cell? ⟨g,k*5+3,none⟩=some (.int .i64 (gW l k))∧w.cell? ⟨g,k*5+4,none⟩=some (.int .u64 (gN l k:Nat)):=by
 rcases h.2 with ⟨h1,h2⟩|⟨g,cap,cur,hv,hbg,hg,rest⟩
 ·omega
 ·refine ⟨g,cap,hv,hbg,lt_of_block hg,fun i=>by simp [World.frozen?,hg],fun k hk=>?_⟩
  have h':=h
  unfold OwnB at h'
  rw [hv] at h'
  have hl:=Ye1 l
  exact ⟨(World.ownsRow.cellAt h' (k*5) (by omega)).trans (Ycu l k 0 hk (by decide)),(World.ownsRow.cellAt h' (k*5+1) (by omega)).trans (Ycu l k 1 hk (by decide)),(World.ownsRow.cellAt h' (k*5+2) (by omega)).trans (Ycu l k 2 hk (by decide)),(World.ownsRow.cellAt h' (k*5+3) (by omega)).trans (Ycu l k 3 hk (by decide)),(World.ownsRow.cellAt h' (k*5+4) (by omega)).trans (Ycu l k 4 hk (by decide))⟩
theorem joinK_len (bs:List Blk):∀ k,(joinK bs k).length≤k
 | 0=>Nat.le_refl _
 | k+1=>by
  have ih:=joinK_len bs k
  unfold joinK Ycf
  split
  ·split
   ·simp only [List.length_append,List.length_dropLast,List.length_cons,List.length_nil]
    omega
   ·simp;omega
  ·simp;omega
theorem joinK_size {bs:List Blk} {S:Nat} (hbd:∀ k,k<bs.length→gS bs k≤S):∀ k,k≤bs.length→∀ p∈joinK bs k,p.s≤k*S
 | 0,_=>fun p hp=>by cases hp
 | k+1,h=>fun p hp=>by
  have ih:=joinK_size hbd k (by omega)
  have hk:(bs.getD k default).s≤S:=hbd k (by omega)
  rw [Nat.succ_mul]
  obtain ⟨c,hc⟩:∃ c,bs.getD k default=c:=⟨_,rfl⟩
  unfold joinK Ycf at hp
  rw [hc] at hp hk
  split at hp
  ·rename_i q hq
   split at hp
   ·rcases List.mem_append.1 hp with hp|hp
    ·have:=ih p (List.dropLast_subset _ hp)
     omega
    ·have:=ih q (List.mem_of_getLast? hq)
     rw [List.mem_singleton.1 hp]
     exact Nat.add_le_add this hk
   ·rcases List.mem_append.1 hp with hp|hp
    ·have:=ih p hp
     omega
    ·rw [List.mem_singleton.1 hp];omega
  ·rcases List.mem_append.1 hp with hp|hp
   ·have:=ih p hp
    omega
   ·rw [List.mem_singleton.1 hp];omega
set_option maxHeartbeats 8000000 in
theorem Yd9 {w:World} {la:Option Addr} {n c:Nat} {bs:List Blk} (hb:Yb0 w la bs) (hn':bs.length=n) (hn:n≤1000) (hbd:∀ k,k<bs.length→gS bs k≤10000000) :
  Calls Tryz.prog 82 #[.slice la n c] w fun e w'=>∃ v,e=.returned v∧OwnB w' w.heap.size 81 v (Ybs bs)∧w.grownBy w' none:=by
 have HN:=Lib.hid hn'
 have HB:=Lib.hid hb
 have HSZ:=Lib.hid (joinK_size hbd)
 have HBD:=Lib.hid hbd
 rw [← joinK_all bs,hn']
 obtain ⟨z,hz⟩:∃ z,joinK bs n=z:=⟨_,rfl⟩
 rw [hz]
 have HZ:=Lib.hid hz
 clear hb hn' hbd hz
 go_enter Tryz.func82,Tryz.ntmps82
 go_wp2
 go_loopw [4,3] (fun i v wr=>∃ k:Nat,k≤n∧i=.int .i64 k∧OwnB wr w.heap.size 81 v (joinK bs k)∧w.grownBy wr none) (fun i _ _=>n - (intOf i).toNat)
 case atStart=>exact ⟨0,Nat.zero_le _,rfl,World.ownsRow_nil _ _ _ _,Yag _ _⟩
 case round =>
  obtain ⟨k,hk,rfl,hown,hgr⟩:=hrel
  have hsw:=hgr.size
  rcases Nat.lt_or_ge k n with h1|h1
  ·have h1':(k:Int)<(n:Int):=by omega
   obtain ⟨bb,off,rfl,hbb,hcs⟩:=(HB.out.later hgr).cells (by rw [HN.out];omega)
   obtain ⟨c0,c1,c2,c3,c4⟩:=hcs k (by rw [HN.out];exact h1)
   have hnext:joinK bs (k+1)=Ycf (joinK bs k) (bs.getD k default):=rfl
   have hlen:=joinK_len bs k
   have hszk:=HSZ.out k (by rw [HN.out];omega)
   have hsz2:(bs.getD k default).s≤10000000:=HBD.out k (by rw [HN.out];omega)
   obtain ⟨out,ho⟩:∃ out,joinK bs k=out:=⟨_,rfl⟩
   rw [ho] at hown hnext hlen hszk
   obtain ⟨q,hq⟩:∃ q,bs.getD k default=q:=⟨_,rfl⟩
   unfold gO at c0
   unfold gS at c1
   unfold gU at c2
   unfold gW at c3
   unfold gN at c4
   rw [hq] at c0 c1 c2 c3 c4 hnext hsz2
   obtain ⟨x0,x1,x2,x3,x4⟩:=q
   simp only at c0 c1 c2 c3 c4 hsz2
   have HOWN:=Lib.hid hown
   clear hcs ho hq
   rcases List.eq_nil_or_concat out with e|⟨X,p,e⟩
   ·subst e
    have HNX:=Lib.hid hnext
    obtain ⟨va,vc,hv,_⟩:=hown.at_
    replace hv:_=Value.slice va 0 vc:=hv
    subst hv
    clear hown hnext hszk hsz2
    go_wp2_with (at_builtin;go_must (refine Ycv (l:=[]) rfl HOWN.out (by decide) hsw ⟨x0,x1,x2,x3,x4⟩ rfl _ _ rfl rfl rfl rfl ?_);intro g cp w8 hrow8 hg8 hloc)
    go_roundw
    case rel=>exact ⟨k+1,by omega,by go_num,by rw [HNX.out];exact hrow8,Yaj hgr hg8 (fun i hi=>.inl (World.ownsRow.lt HOWN.out i hi).1)⟩
    case measure=>simp [intOf];omega
   ·rw [List.concat_eq_append] at e
    subst e
    have hsz:=hszk p (by simp)
    clear hszk
    obtain ⟨g,cp,hv,hbg,hgw,hfz,hat⟩:=hown.spot (by simp)
    obtain ⟨m,hm⟩:∃ m,X.length=m:=⟨_,rfl⟩
    have hxl:(X++[p]).length=m+1:=by simp [hm]
    rw [hxl] at hv hlen
    subst hv
    obtain ⟨d0,d1,d2,d3,d4⟩:=hat m (by omega)
    have hpm:(X++[p]).getD m default=p:=by rw [← hm,List.getD_eq_getElem?_getD,List.getElem?_append_right (Nat.le_refl _),Nat.sub_self];rfl
    unfold gO at d0
    unfold gS at d1
    unfold gU at d2
    unfold gW at d3
    unfold gN at d4
    rw [hpm] at d0 d1 d2 d3 d4
    obtain ⟨p0,p1,p2,p3,p4⟩:=p
    simp only at d0 d1 d2 d3 d4
    have em:IntKind.i64.wrap (((m+1:Nat):Int) - 1)=(m:Nat):=by rw [IntKind.wrap_i64];omega
    have HM:=Lib.hid hm
    have HXL:=Lib.hid hxl
    clear hat hpm hown hm hxl
    cases p2 with
    | true =>
     rw [joinS_apart (fun q hq=>by rw [List.getLast?_concat] at hq;injection hq with hq;rw [← hq];exact .inl rfl)] at hnext
     have HNX:=Lib.hid hnext
     clear hnext hsz hsz2
     go_wp2_with (at_builtin;go_must (refine Ycv (l:=X++[⟨p0,p1,true,p3,p4⟩]) HXL.out HOWN.out (by rw [HXL.out];omega) hsw ⟨x0,x1,x2,x3,x4⟩ rfl _ _ rfl rfl rfl rfl ?_);intro g2 cp2 w8 hrow8 hg8 hloc)
     go_roundw
     case rel=>exact ⟨k+1,by omega,by go_num,by rw [HNX.out];exact hrow8,Yaj hgr hg8 (fun i hi=>.inl (World.ownsRow.lt HOWN.out i hi).1)⟩
     case measure=>simp [intOf];omega
    | false =>
     cases x2 with
     | true =>
      rw [joinS_apart (fun q hq=>.inr rfl)] at hnext
      have HNX:=Lib.hid hnext
      clear hnext hsz hsz2
      go_wp2_with (at_builtin;go_must (refine Ycv (l:=X++[⟨p0,p1,false,p3,p4⟩]) HXL.out HOWN.out (by rw [HXL.out];omega) hsw ⟨x0,x1,true,x3,x4⟩ rfl _ _ rfl rfl rfl rfl ?_);intro g2 cp2 w8 hrow8 hg8 hloc)
      go_roundw
      case rel=>exact ⟨k+1,by omega,by go_num,by rw [HNX.out];exact hrow8,Yaj hgr hg8 (fun i hi=>.inl (World.ownsRow.lt HOWN.out i hi).1)⟩
      case measure=>simp [intOf];omega
     | false =>
      rw [Yex rfl rfl] at hnext
      have HNX:=Lib.hid hnext
      have hz1:p1≤k*10000000:=hsz
      have ez:IntKind.u64.wrap ((p1:Int)+(x1:Int))=((p1+x1:Nat):Int):=by
       have:p1≤1000*10000000:=Nat.le_trans hz1 (Nat.mul_le_mul_right _ (by omega))
       rw [IntKind.wrap_u64]
       omega
      obtain ⟨z1,ez1⟩:∃ z1,p1+x1=z1:=⟨_,rfl⟩
      rw [ez1] at ez
      have HEZ:=Lib.hid ez1
      clear hnext hsz hsz2 hz1 ez1
      go_wp2
      have BX:=Yab wr (.cells #[.int .u64 p0,.int .u64 p1,.bool false,.int .i64 p3,.int .u64 p4] 81)
      have ga:=World.grownBy_alloc wr (.cells #[.int .u64 p0,.int .u64 p1,.bool false,.int .i64 p3,.int .u64 p4] 81) none
      obtain ⟨W1,hW1⟩:∃ W1,wr.alloc (.cells #[.int .u64 p0,.int .u64 p1,.bool false,.int .i64 p3,.int .u64 p4] 81)=W1:=⟨_,rfl⟩
      obtain ⟨b1,hb1⟩:∃ b1,wr.heap.size=b1:=⟨_,rfl⟩
      rw [hW1,hb1] at BX
      rw [hW1] at ga
      rw [hW1,hb1]
      have HG:W1.grownBy W1.drew none:=Yah (Yag _ _)
      have BX2:=(HG.block _ (lt_of_block BX) (by simp)).trans BX
      obtain ⟨l0,l1,l2,l3,l4⟩:=Yaw BX2
      obtain ⟨f0,f1,f2,f3,f4⟩:=five_frozen BX2
      have G2:=Yaa ga HG
      have s1:W1.drew.cell? ⟨bb,off+k*5+1,none⟩=some (.int .u64 x1):=(World.cell?_of_block (a:=⟨bb,off+k*5+1,none⟩) (G2.block bb hbb (by simp))).trans c1
      have hown1:=HOWN.out.later ga
      have hgb:(Value.slice (some ⟨g,0,none⟩) (m+1) cp).ownBlock≠some b1:=fun e=>by
       injection e with e
       have:g=b1:=e
       omega
      have hs1:=Yac W1 b1 1 (.int .u64 z1)
      have hd1:(W1.setCell ⟨b1,1,none⟩ (.int .u64 z1)).grownBy (W1.setCell ⟨b1,1,none⟩ (.int .u64 z1)).drew none:=Yah (Yag _ _)
      have hown2:OwnB (W1.setCell ⟨b1,1,none⟩ (.int .u64 z1)) w.heap.size 81 (.slice (some ⟨g,0,none⟩) (m+1) cp) (X++[⟨p0,p1,false,p3,p4⟩]):=World.ownsRow.kept hown1 hs1 (.inr hgb)
      have BX3:(W1.setCell ⟨b1,1,none⟩ (.int .u64 z1)).heap[b1]?=some (.cells #[.int .u64 p0,.int .u64 z1,.bool false,.int .i64 p3,.int .u64 p4] 81 (0,0)):=by rw [Yar BX];rfl
      obtain ⟨r0,r1,r2,r3,r4⟩:=Yaw ((hd1.block _ (lt_of_block BX3) (by simp)).trans BX3)
      obtain ⟨_,cur,hbk⟩:=Yct hown1 (g:=g) rfl
      have hgw2:=lt_of_block hbk
      have hfz2:∀ i,W1.frozen? ⟨g,i,none⟩=false:=fun i=>by simp [World.frozen?,hbk]
      have hgg:=ga.block g hgw (by simp)
      have t0:=(World.cell?_of_block (a:=⟨g,m*5,none⟩) hgg).trans d0
      have t1:=(World.cell?_of_block (a:=⟨g,m*5+1,none⟩) hgg).trans d1
      have t2:=(World.cell?_of_block (a:=⟨g,m*5+2,none⟩) hgg).trans d2
      have t3:=(World.cell?_of_block (a:=⟨g,m*5+3,none⟩) hgg).trans d3
      have t4:=(World.cell?_of_block (a:=⟨g,m*5+4,none⟩) hgg).trans d4
      have f5:=hfz2 (m*5)
      have f6:=hfz2 (m*5+1)
      have f7:=hfz2 (m*5+2)
      have f8:=hfz2 (m*5+3)
      have f9:=hfz2 (m*5+4)
      have n1:¬ g=b1:=by omega
      have n2:¬ b1=g:=by omega
      have hput:=ownB_put (C:=[]) ⟨p0,z1,false,p3,p4⟩ hown2 HXL.out HM.out
      have hgr2:w.grownBy (W1.setCell ⟨b1,1,none⟩ (.int .u64 z1)) none:=Yaj (Yaa hgr ga) hs1 (fun i hi=>.inl (by injection hi with hi;omega))
      have hgr3:=Yaj hgr2 (Yd3 (W1.setCell ⟨b1,1,none⟩ (.int .u64 z1)) g m (.int .u64 p0) (.int .u64 z1) (.bool false) (.int .i64 p3) (.int .u64 p4)) (fun i hi=>.inl (by injection hi with hi;omega))
      simp only at hput
      obtain ⟨W9,hW9⟩:∃ W9,((((((W1.setCell ⟨b1,1,none⟩ (.int .u64 z1)).setCell ⟨g,m*5,none⟩ (.int .u64 p0)).setCell ⟨g,m*5+1,none⟩ (.int .u64 z1)).setCell ⟨g,m*5+2,none⟩ (.bool false)).setCell ⟨g,m*5+3,none⟩ (.int .i64 p3)).setCell ⟨g,m*5+4,none⟩ (.int .u64 p4))=W9:=⟨_,rfl⟩
      rw [hW9] at hput hgr3
      have hd9:W9.grownBy W9.drew none:=Yah (Yag _ _)
      replace hput:=OwnB.later hput hd9
      replace hgr3:=Yaa hgr3 hd9
      have HPUT:=Lib.hid hput
      have HGR3:=Lib.hid hgr3
      clear hfz hfz2 hput hgr3 hown1 hown2 hgr2 hs1 hgg hbk
      go_region_law (fail)
      all_goals
       clear l0 l1 l2 l3 l4 f0 f1 f2 f3 f4 s1
       go_wp2
       go_roundw
       case rel=>exact ⟨k+1,by omega,by go_num,by rw [HNX.out,HEZ.out];exact HPUT.out,HGR3.out⟩
       case measure=>simp [intOf];omega
  ·obtain rfl:k=n:=by omega
   rw [HZ.out] at hown
   obtain ⟨va,vc,hv,_⟩:=hown.at_
   have HOWN:=Lib.hid hown
   subst hv
   obtain ⟨zl,hzl⟩:∃ zl,z.length=zl:=⟨_,rfl⟩
   rw [hzl] at HOWN ⊢
   clear hown hzl
   go_wp2
   go_ret
   exact ⟨_,rfl,HOWN.out,hgr⟩
end
section
def payL (bs:List Blk):List Nat:=(usedB bs).map (·+32)
def payB (bs:List Blk) (k:Nat):Nat:=(payL bs).getD (k % (payL bs).length) 0
theorem payL_take (bs:List Blk) {k:Nat} (h:k<bs.length):payL (bs.take (k+1))=if gU bs k=true then payL (bs.take k)++[gO bs k+32] else payL (bs.take k):=by
 have e:bs.take (k+1)=bs.take k++[bs.getD k default]:=by
  rw [List.take_succ_eq_append_getElem h,List.getD_eq_getElem?_getD,List.getElem?_eq_getElem h]
  rfl
 unfold payL
 rw [e,usedB_append]
 unfold gU gO
 obtain ⟨x,hx⟩:∃ x,bs.getD k default=x:=⟨_,rfl⟩
 rw [hx]
 cases hu:x.u with
 | true=>simp [usedB,hu]
 | false=>simp [usedB,hu]
theorem payL_len (bs:List Blk):(payL bs).length≤bs.length:=by
 unfold payL usedB
 rw [List.length_map,List.length_map]
 exact List.length_filter_le _ _
set_option maxHeartbeats 4000000 in
theorem Ybp {w:World} {base:Nat} {v:Value} {E:Nat} {bs:List Blk} {L:Nat→List Nat} (h:HvIs w base v E bs L) (hn:bs.length≤1000000) (p:Nat) :
  Calls Tryz.prog 100 #[v,.int .u64 p] w fun e w'=>e=.returned (.int .i64 (fstZ (pF p) bs))∧w.grownBy w' none:=by
 obtain ⟨b,vs,rfl,ho,hl⟩:=h.is
 obtain ⟨la,c,rfl,hb⟩:=ho.at_
 obtain ⟨n,hn'⟩:∃ n,bs.length=n:=⟨_,rfl⟩
 rw [hn'] at hn ⊢
 have hg0:w.grownBy (w.alloc (.cells #[.int .u64 E,.slice la n c,vs 0,vs 1,vs 2,vs 3,vs 4,vs 5,vs 6,vs 7] 31)) none:=World.grownBy_alloc _ _ _
 have hbx:∀ V:World,(w.alloc (.cells #[.int .u64 E,.slice la n c,vs 0,vs 1,vs 2,vs 3,vs 4,vs 5,vs 6,vs 7] 31)).grownBy V none→V.cell? ⟨w.heap.size,1,none⟩=some (.slice la n c):=fun V hg=>by
  have:=(hg.block _ (by simp) (by simp)).trans (Yab w (.cells #[.int .u64 E,.slice la n c,vs 0,vs 1,vs 2,vs 3,vs 4,vs 5,vs 6,vs 7] 31))
  simp [World.cell?,this]
 have hbl:=fun (V:World) (hg:w.grownBy V none)=>hb.later hg
 have HN:=Lib.hid hn'
 have HBL:=Lib.hid hbl
 clear ho hl hb hn' hbl h
 unfold Ya1
 go_enter Tryz.func100,Tryz.ntmps100
 go_wp2
 obtain ⟨W0,hW0⟩:∃ W0,w.alloc (.cells #[.int .u64 E,.slice la n c,vs 0,vs 1,vs 2,vs 3,vs 4,vs 5,vs 6,vs 7] 31)=W0:=⟨_,rfl⟩
 rw [hW0] at hg0 hbx ⊢
 have HBX:=Lib.hid hbx
 have HG0:=Lib.hid hg0
 clear hbx hW0 hg0
 go_loopw [5] (fun i wr=>∃ k:Nat,k≤n∧i=.int .i64 k∧Hid (∀ j,j<k→pF p (bs.getD j default)=false)∧wr=W0) (fun i _=>n - (intOf i).toNat)
 case atStart=>exact ⟨0,Nat.zero_le _,rfl,Lib.hid (fun j hj=>absurd hj (Nat.not_lt_zero _)),rfl⟩
 case round =>
  obtain ⟨k,hk,rfl,HJ,rfl⟩:=hrel
  have q0:=HBX.out wr (Yag _ _)
  rcases Nat.lt_or_ge k n with h1|h1
  ·have h1':(k:Int)<(n:Int):=by omega
   obtain ⟨bb,off,rfl,hbb,hcs⟩:=(HBL.out wr HG0.out).cells (by rw [HN.out];omega)
   obtain ⟨c0,_,c2,_,_⟩:=hcs k (by rw [HN.out];exact h1)
   obtain ⟨x,hx⟩:∃ x,gO bs k=x:=⟨_,rfl⟩
   obtain ⟨u,hu⟩:∃ u,gU bs k=u:=⟨_,rfl⟩
   have hp:pF p (bs.getD k default)=(u && decide ((x+32) % 18446744073709551616=p)):=by rw [← hx,← hu];rfl
   rw [hx] at c0
   rw [hu] at c2
   have HX:=Lib.hid hp
   clear hcs hx hu hp
   cases u with
   | false =>
    go_wp2
    go_roundw
    case rel =>
     refine ⟨k+1,by omega,by go_num,Lib.hid fun j hj=>?_,trivial⟩
     rcases Nat.lt_or_ge j k with h'|h'
     ·exact HJ.out j h'
     ·obtain rfl:j=k:=by omega
      rw [HX.out];rfl
    case measure=>simp [intOf];omega
   | true =>
    obtain ⟨y,hy⟩:∃ y,(x+32) % 18446744073709551616=y:=⟨_,rfl⟩
    have e32:IntKind.u64.wrap ((x:Int)+32)=(y:Nat):=by rw [IntKind.wrap_u64];omega
    have HY:=Lib.hid hy
    clear hy
    by_cases e:y=p
    ·subst e
     go_wp2
     go_ret
     exact ⟨congrArg (fun z=>Ending.returned (.int .i64 z)) (fstZ_is (p:=pF y) (l:=bs) (by rw [HN.out];exact h1) (by rw [HX.out,HY.out];simp) HJ.out),HG0.out⟩
    ·have e1:((y:Int) == (p:Int))=false:=by simpa using fun h=>e (by omega)
     have e2:¬ (y:Int)=(p:Int):=by omega
     go_wp2
     go_roundw
     case rel =>
      refine ⟨k+1,by omega,by go_num,Lib.hid fun j hj=>?_,trivial⟩
      rcases Nat.lt_or_ge j k with h'|h'
      ·exact HJ.out j h'
      ·obtain rfl:j=k:=by omega
       rw [HX.out,HY.out,decide_eq_false e,Bool.and_false]
     case measure=>simp [intOf];omega
  ·obtain rfl:k=n:=by omega
   go_wp2
   go_ret
   exact ⟨congrArg (fun z=>Ending.returned (.int .i64 z)) (fstZ_not (p:=pF p) (l:=bs) (by rw [HN.out];exact HJ.out)),HG0.out⟩
set_option maxHeartbeats 4000000 in
theorem rpayload10_any {w:World} {base:Nat} {v:Value} {E:Nat} {bs:List Blk} {L:Nat→List Nat} (h:HvIs w base v E bs L) (hn:bs.length≤1000) (hbd:Yds bs) (q:Nat) (hq:q<1000) :
  Calls Tryz.prog 35 #[v,.int .i64 q] w fun e w'=>e=.returned (.int .u64 (payB bs q:Nat))∧w.grownBy w' none:=by
 obtain ⟨b,vs,rfl,ho,hl⟩:=h.is
 obtain ⟨la,c,rfl,hb⟩:=ho.at_
 obtain ⟨n,hn'⟩:∃ n,bs.length=n:=⟨_,rfl⟩
 rw [hn'] at hn ⊢
 have hg0:w.grownBy (w.alloc (.cells #[.int .u64 E,.slice la n c,vs 0,vs 1,vs 2,vs 3,vs 4,vs 5,vs 6,vs 7] 31)) none:=World.grownBy_alloc _ _ _
 have hbx:∀ V:World,(w.alloc (.cells #[.int .u64 E,.slice la n c,vs 0,vs 1,vs 2,vs 3,vs 4,vs 5,vs 6,vs 7] 31)).grownBy V none→V.cell? ⟨w.heap.size,1,none⟩=some (.slice la n c):=fun V hg=>by
  have:=(hg.block _ (by simp) (by simp)).trans (Yab w (.cells #[.int .u64 E,.slice la n c,vs 0,vs 1,vs 2,vs 3,vs 4,vs 5,vs 6,vs 7] 31))
  simp [World.cell?,this]
 have hbl:=fun (V:World) (hg:w.grownBy V none)=>hb.later hg
 have HN:=Lib.hid hn'
 have HBL:=Lib.hid hbl
 have HBD:=Lib.hid hbd
 clear ho hl hb hn' hbl h hbd
 obtain ⟨z,hz⟩:∃ z,payB bs q=z:=⟨_,rfl⟩
 rw [hz]
 have HZ:=Lib.hid hz
 clear hz
 unfold Ya1
 go_enter Tryz.func35,Tryz.ntmps35
 go_wp2
 obtain ⟨W0,hW0⟩:∃ W0,w.alloc (.cells #[.int .u64 E,.slice la n c,vs 0,vs 1,vs 2,vs 3,vs 4,vs 5,vs 6,vs 7] 31)=W0:=⟨_,rfl⟩
 rw [hW0] at hg0 hbx ⊢
 have HBX:=Lib.hid hbx
 have HG0:=Lib.hid hg0
 have hsz0:=hg0.size
 clear hbx hW0 hg0
 go_loopw [6,5] (fun i v wr=>∃ k:Nat,k≤n∧i=.int .i64 k∧OwnW wr W0.heap.size v (payL (bs.take k))∧W0.grownBy wr none) (fun i _ _=>n - (intOf i).toNat)
 case atStart=>exact ⟨0,Nat.zero_le _,rfl,World.ownsRow_nil _ _ _ _,Yag _ _⟩
 case round =>
  obtain ⟨k,hk,rfl,hown,hgr⟩:=hrel
  have q0:=HBX.out wr hgr
  have hsw:=hgr.size
  rcases Nat.lt_or_ge k n with h1|h1
  ·have h1':(k:Int)<(n:Int):=by omega
   obtain ⟨bb,off,rfl,hbb,hcs⟩:=(HBL.out wr (Yaa HG0.out hgr)).cells (by rw [HN.out];omega)
   obtain ⟨c0,_,c2,_,_⟩:=hcs k (by rw [HN.out];exact h1)
   have hnext:=payL_take bs (k:=k) (by rw [HN.out];exact h1)
   have hflen:=payL_len (bs.take k)
   have hbk:=HBD.out k (by rw [HN.out];exact h1)
   rw [List.length_take,HN.out] at hflen
   obtain ⟨x,hx⟩:∃ x,gO bs k=x:=⟨_,rfl⟩
   obtain ⟨fl,hfl⟩:∃ fl,payL (bs.take k)=fl:=⟨_,rfl⟩
   rw [hx] at c0 hnext hbk
   rw [hfl] at hown hnext hflen
   have e32:IntKind.u64.wrap ((x:Int)+32)=((x+32:Nat):Int):=by rw [IntKind.wrap_u64];omega
   obtain ⟨y,ey⟩:∃ y,x+32=y:=⟨_,rfl⟩
   rw [ey] at e32 hnext
   have HOWN:=Lib.hid hown
   cases hu:gU bs k with
   | false =>
    rw [hu] at c2 hnext
    rw [if_neg (by simp)] at hnext
    have HNX:=Lib.hid hnext
    clear hnext hcs hx hfl hown hu ey hbk
    go_wp2
    go_roundw
    case rel=>exact ⟨k+1,by omega,by go_num,by rw [HNX.out];exact HOWN.out,hgr⟩
    case measure=>simp [intOf];omega
   | true =>
    rw [hu] at c2 hnext
    rw [if_pos rfl] at hnext
    have HNX:=Lib.hid hnext
    clear hnext hcs hx hfl hown hu ey hbk
    go_wp2_with (at_builtin;go_must (refine Yce rfl _ _ rfl W0.heap.size _ fl rfl HOWN.out y rfl (by omega) (by omega) ?_);intro v8 w8 hown8 hg8 hloc8)
    go_roundw
    case rel=>exact ⟨k+1,by omega,by go_num,by rw [HNX.out];exact hown8,Yaj hgr hg8 (fun i hi=>.inl (World.ownsRow.lt HOWN.out i hi).1)⟩
    case measure=>simp [intOf];omega
  ·obtain rfl:k=n:=by omega
   rw [← HN.out,List.take_length] at hown
   have hz:=HZ.out
   unfold payB at hz
   obtain ⟨fl,hfl⟩:∃ fl,payL bs=fl:=⟨_,rfl⟩
   have hlen:=payL_len bs
   rw [hfl] at hown hlen hz
   rw [HN.out] at hlen
   obtain ⟨fa,fc,g,hfv,hfa,hat⟩:=hown.addr
   subst hfv
   have hat1:=hat wr hown
   obtain ⟨m,hm⟩:∃ m,fl.length=m:=⟨_,rfl⟩
   rw [hm] at hfa hat1 hlen hz ⊢
   clear hat hown hfl
   rcases Nat.eq_zero_or_pos m with h0|h0
   ·subst h0
    have e0:fl.getD (q % 0) 0=0:=by rw [List.getD_eq_getElem?_getD,List.getElem?_eq_none (by omega)];rfl
    rw [e0] at hz
    subst hz
    clear e0 hat1 hfa hm HZ
    go_wp2
    go_ret
    exact ⟨rfl,Yaa HG0.out hgr⟩
   ·have hfa1:=hfa h0
    subst hfa1
    have hlt:=Nat.mod_lt q h0
    have c0:=hat1 (q % m) hlt
    have em:(q:Int).tmod (m:Int)=((q % m:Nat):Int):=by rw [Int.tmod_eq_emod_of_nonneg (by omega)];omega
    have m0:¬ (m:Int)=0:=by omega
    have mb:((m:Int) == 0)=false:=by simpa using m0
    obtain ⟨r,hr⟩:∃ r,q % m=r:=⟨_,rfl⟩
    rw [hr] at c0 em hlt hz
    rw [hz] at c0
    clear hat1 hr hz hfa hm HZ
    go_wp2
    go_ret
    exact ⟨rfl,Yaa HG0.out hgr⟩
end
end Go.Proofs.YtfhiljglfhekdaaGreat
