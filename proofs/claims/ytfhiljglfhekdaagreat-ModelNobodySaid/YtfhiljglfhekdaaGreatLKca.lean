/-
  Texts of one layer, one behind the other: memory, contracts of the functions, and what follows of them.
  Conditions: as each theorem says.
-/
import Derived.Test.YtfhiljglfhekdaaGreatLPha
import Derived.Test.YtfhiljglfhekdaaGreatLRea
import Derived.Test.YtfhiljglfhekdaaGreatLSea
import Derived.Deep.MidRow
import Derived.Laws.Rows
import Derived.Test.YtfhiljglfhekdaaGreatLCaa
import Derived.Test.YtfhiljglfhekdaaGreatLWoa
import Derived.Lib.AppendZeros
import Derived.Laws.IdiomCopy
import Derived.Lib.SliceRun
import Derived.Maps.AppendAt
import Derived.Shelf.Spec.SlicesInsert
import Derived.Lib.AppendZerosOnto
import Derived.Laws.NewBlocks
import Derived.Lib.Overlaps
set_option linter.unusedVariables false
set_option linter.unusedSimpArgs false
set_option maxRecDepth 100000
namespace Go.Proofs.YtfhiljglfhekdaaGreat
open Go.RowKit
section
theorem Ybu {w:World} {a b:Nat} {c c':Array Value} {t t':TypeId} {f f':Nat × Nat} (h:w.heap[a]?=some (.cells c t f)) (h':w.heap[b]?=some (.cells c' t' f')) (hne:t≠t'):a≠b:=by
 intro e
 subst e
 rw [h] at h'
 injection h' with h'
 injection h' with _ h2 _
 exact hne h2
theorem Ybm {w w':World} {row:Option Nat} {p:Nat→Prop} (h:w.grownBy w' row) (hp:∀ k,row=some k→p k):Ybo p w w' :=
 ⟨h.os,h.tape,h.output,h.size,fun k hk hn=>h.block k hk (fun e=>hn (hp k e.symm))⟩
theorem Ybx {p q:Nat→Prop} {a b c:World} (h:Ybo p a b) (k:Ybo q b c) (hq:∀ i,q i→p i∨a.heap.size≤i):Ybo p a c :=
 ⟨k.os.trans h.os,k.tape.trans h.tape,k.output.trans h.output,Nat.le_trans h.size k.size,fun i hi hn =>
  (k.block i (Nat.lt_of_lt_of_le hi h.size) (fun hk=>by
   rcases hq i hk with h'|h'
   ·exact hn h'
   ·omega)).trans (h.block i hi hn)⟩
theorem turned_mono {p q:Nat→Prop} {w w':World} (h:Ybo p w w') (hq:∀ k,k<w.heap.size→p k→q k):Ybo q w w' :=
 ⟨h.os,h.tape,h.output,h.size,fun k hk hn=>h.block k hk (fun hp=>hn (hq k hk hp))⟩
theorem Yay {p:Nat→Prop} {w w':World} (h:Ybo p w w') {b:Nat} {o:Obj} (hb:w.heap[b]?=some o) (hn:¬ p b):w'.heap[b]?=some o:=(h.block b (lt_of_block hb) hn).trans hb
structure KB where
 b:Blk
 a:Option Addr
 m:Nat
 c:Nat
 d:List Nat
def KB.cel (k:KB):List Value:=[.int .u64 (k.b.off:Nat),.int .u64 (k.b.s:Nat),.bool k.b.u,.int .i64 k.b.o,.int .u64 (k.b.n:Nat),.slice k.a k.m k.c]
theorem KB.cel_len (k:KB):k.cel.length=6:=rfl
theorem KB.cel_one (k:KB):∀ v∈k.cel,v.oneCell'=true:=by
 intro v hv
 simp only [KB.cel,List.mem_cons,List.mem_nil_iff,or_false] at hv
 rcases hv with rfl|rfl|rfl|rfl|rfl|rfl <;> rfl
instance:Inhabited KB:=⟨⟨default,none,0,0,[]⟩⟩
def updK (f:Nat→KB) (k:Nat) (x:KB):Nat→KB:=fun j=>if j=k then x else f j
theorem Yby (f:Nat→KB) (k:Nat) (x:KB):updK f k x k=x:=if_pos rfl
theorem Ydu {f:Nat→KB} {k j:Nat} {x:KB} (h:j≠k):updK f k x j=f j:=if_neg h
structure RowF (w:World) (g cap n:Nat) (f:Nat→KB):Prop where
 ex:∃ cur:Array Value,w.heap[g]?=some (.cells cur 53 (0,0))∧cur.size=cap*6∧∀ j,j<n→∀ i,i<6→cur[j*6+i]?=(f j).cel[i]?
 le:n≤cap
 cap:cap≤maxLen
section
variable {w w':World} {g cap n k i:Nat} {f f':Nat→KB} {x:KB} {v:Value}
theorem RowF.blk (h:RowF w g cap n f):∃ cur:Array Value,w.heap[g]?=some (.cells cur 53 (0,0))∧cur.size=cap*6:=by
 obtain ⟨cur,h1,h2,_⟩:=h.ex
 exact ⟨cur,h1,h2⟩
theorem RowF.lt (h:RowF w g cap n f):g<w.heap.size:=by
 obtain ⟨cur,h1,h2,_⟩:=h.ex
 exact lt_of_block h1
theorem RowF.congr (h:RowF w g cap n f) (he:∀ j,j<n→f' j=f j):RowF w g cap n f':=by
 obtain ⟨cur,h1,h2,h3⟩:=h.ex
 exact ⟨⟨cur,h1,h2,fun j hj i hi=>by rw [he j hj];exact h3 j hj i hi⟩,h.le,h.cap⟩
theorem RowF.kept {row:Option Nat} (h:RowF w g cap n f) (hg:w.grownBy w' row) (hr:row≠some g):RowF w' g cap n f:=by
 obtain ⟨cur,h1,h2⟩:=h.ex
 exact ⟨⟨cur,(hg.block _ (lt_of_block h1) (fun e=>hr e.symm)).trans h1,h2⟩,h.le,h.cap⟩
theorem RowF.later (h:RowF w g cap n f) (hg:w.grownBy w' none):RowF w' g cap n f:=h.kept hg (by simp)
theorem RowF.other {b:Nat} {c:Array Value} {t:TypeId} {fr:Nat × Nat} (h:RowF w g cap n f) (hb:w.heap[b]?=some (.cells c t fr)) (ht:t≠53) (hg:w.grownBy w' (some b)):RowF w' g cap n f:=by
 obtain ⟨cur,h1,h2⟩:=h.blk
 exact h.kept hg (fun e=>by injection e with e;exact Ybu hb h1 ht e)
theorem RowF.turned {p:Nat→Prop} (h:RowF w g cap n f) (hg:Ybo p w w') (hr:¬ p g):RowF w' g cap n f:=by
 obtain ⟨cur,h1,h2⟩:=h.ex
 exact ⟨⟨cur,hg.heap h1 hr,h2⟩,h.le,h.cap⟩
theorem RowF.frz (h:RowF w g cap n f) (i:Nat):w.frozen? ⟨g,i,none⟩=false:=by
 obtain ⟨cur,h1,_⟩:=h.ex
 simp [World.frozen?,h1]
theorem RowF.cell (h:RowF w g cap n f) (hk:k<n) (hi:i<6):w.cell? ⟨g,k*6+i,none⟩=(f k).cel[i]?:=by
 obtain ⟨cur,h1,h2,h3⟩:=h.ex
 simp [World.cell?,h1,h3 k hk i hi]
theorem RowF.cells (h:RowF w g cap n f) (hk:k<n):w.cell? ⟨g,k*6,none⟩=some (.int .u64 ((f k).b.off:Nat))∧w.cell? ⟨g,k*6+1,none⟩=some (.int .u64 ((f k).b.s:Nat))∧w.cell? ⟨g,k*6+2,none⟩=some (.bool (f k).b.u)∧w.cell? ⟨g,k*6+3,none⟩=some (.int .i64 (f k).b.o)∧w.cell? ⟨g,k*6+4,none⟩=some (.int .u64 ((f k).b.n:Nat))∧w.cell? ⟨g,k*6+5,none⟩=some (.slice (f k).a (f k).m (f k).c) :=
 ⟨h.cell hk (i:=0) (by decide),h.cell hk (i:=1) (by decide),h.cell hk (i:=2) (by decide),h.cell hk (i:=3) (by decide),h.cell hk (i:=4) (by decide),h.cell hk (i:=5) (by decide)⟩
theorem RowF.has (h:RowF w g cap n f) {j:Nat} (hj:j<cap*6):(w.cell? ⟨g,j,none⟩).isSome=true:=by
 obtain ⟨cur,h1,h2,_⟩:=h.ex
 simp [World.cell?,h1]
 omega
theorem RowF.set (h:RowF w g cap n f) (hk:k<n) (hi:i<6) (hx:x.cel=(f k).cel.set i v):RowF (w.setCell ⟨g,k*6+i,none⟩ v) g cap n (updK f k x):=by
 obtain ⟨cur,h1,h2,h3⟩:=h.ex
 refine ⟨⟨cur.setIfInBounds (k*6+i) v,by rw [Yar h1 v],by simp [h2],fun j hj i' hi'=>?_⟩,h.le,h.cap⟩
 by_cases hjk:j=k
 ·subst hjk
  rw [Yby,hx]
  by_cases hii:i'=i
  ·subst hii
   have hle:=h.le
   rw [Array.getElem?_setIfInBounds_self_of_lt (by omega),List.getElem?_set_self (by rw [KB.cel_len];exact hi)]
  ·rw [Array.getElem?_setIfInBounds_ne (by omega),List.getElem?_set_ne (fun e=>hii e.symm)]
   exact h3 j hj i' hi'
 ·rw [Ydu hjk,Array.getElem?_setIfInBounds_ne (by omega)]
  exact h3 j hj i' hi'
theorem updK_upd (f:Nat→KB) (k:Nat) (x y:KB):updK (updK f k x) k y=updK f k y:=by
 funext j
 unfold updK
 split <;> rfl
theorem RowF.put (h:RowF w g cap n f) (hk:k<n) (x:KB):RowF ((((((w.setCell ⟨g,k*6,none⟩ (.int .u64 (x.b.off:Nat))).setCell ⟨g,k*6+1,none⟩ (.int .u64 (x.b.s:Nat))).setCell ⟨g,k*6+2,none⟩ (.bool x.b.u)).setCell ⟨g,k*6+3,none⟩ (.int .i64 x.b.o)).setCell ⟨g,k*6+4,none⟩ (.int .u64 (x.b.n:Nat))).setCell ⟨g,k*6+5,none⟩ (.slice x.a x.m x.c)) g cap n (updK f k x):=by
 obtain ⟨y,hy⟩:∃ y,f k=y:=⟨_,rfl⟩
 obtain ⟨⟨y0,y1,y2,y3,y4⟩,ya,ym,yc,yd⟩:=y
 have h1:=h.set (v:=.int .u64 (x.b.off:Nat)) (i:=0) (x:=⟨⟨x.b.off,y1,y2,y3,y4⟩,ya,ym,yc,yd⟩) hk (by decide) (by rw [hy];rfl)
 have h2:=h1.set (v:=.int .u64 (x.b.s:Nat)) (k:=k) (i:=1) (x:=⟨⟨x.b.off,x.b.s,y2,y3,y4⟩,ya,ym,yc,yd⟩) hk (by decide) (by rw [Yby];rfl)
 have h3:=h2.set (v:=.bool x.b.u) (k:=k) (i:=2) (x:=⟨⟨x.b.off,x.b.s,x.b.u,y3,y4⟩,ya,ym,yc,yd⟩) hk (by decide) (by rw [Yby];rfl)
 have h4:=h3.set (v:=.int .i64 x.b.o) (k:=k) (i:=3) (x:=⟨⟨x.b.off,x.b.s,x.b.u,x.b.o,y4⟩,ya,ym,yc,yd⟩) hk (by decide) (by rw [Yby];rfl)
 have h5:=h4.set (v:=.int .u64 (x.b.n:Nat)) (k:=k) (i:=4) (x:=⟨x.b,ya,ym,yc,yd⟩) hk (by decide) (by rw [Yby];rfl)
 have h6:=h5.set (v:=.slice x.a x.m x.c) (k:=k) (i:=5) (x:=x) hk (by decide) (by rw [Yby];rfl)
 simp only [updK_upd] at h6
 exact h6
theorem put6_grown (w:World) (g k:Nat) (x y z p q r:Value):w.grownBy ((((((w.setCell ⟨g,k*6,none⟩ x).setCell ⟨g,k*6+1,none⟩ y).setCell ⟨g,k*6+2,none⟩ z).setCell ⟨g,k*6+3,none⟩ p).setCell ⟨g,k*6+4,none⟩ q).setCell ⟨g,k*6+5,none⟩ r) (some g) :=
 Yaa (Yac _ _ _ _) (Yaa (Yac _ _ _ _) (Yaa (Yac _ _ _ _) (Yaa (Yac _ _ _ _) (Yaa (Yac _ _ _ _) (Yac _ _ _ _)))))
end
section
variable {w w':World} {B:Nat} {x0 x1 x2 x3 x4 x5:Value} {t:TypeId}
theorem Ya5 (h:w.heap[B]?=some (.cells #[x0,x1,x2,x3,x4,x5] t (0,0))):w.cell? ⟨B,0,none⟩=some x0∧w.cell? ⟨B,1,none⟩=some x1∧w.cell? ⟨B,2,none⟩=some x2∧w.cell? ⟨B,3,none⟩=some x3∧w.cell? ⟨B,4,none⟩=some x4∧w.cell? ⟨B,5,none⟩=some x5:=by
 refine ⟨?_,?_,?_,?_,?_,?_⟩ <;> simp [World.cell?,h]
end
def stC (all:Nat) (bv mv:Value) (lv:Nat→Bool):Array Value:=#[.int .u64 (all:Nat),bv,mv,.bool (lv 0),.bool (lv 1),.bool (lv 2),.bool (lv 3),.bool (lv 4),.bool (lv 5),.bool (lv 6),.bool (lv 7)]
end
section
theorem Yb9 (c:Int) (w:World):Calls Tryz.prog 32 #[.int .i64 c] w fun e w'=>e=.returned (.bool (decide (0≤c∧c<8)))∧w=w':=by
 by_cases h1:0≤c
 ·by_cases h2:c<8
  ·have hr:decide (0≤c∧c<8)=true:=by simp [h1,h2]
   rw [hr]
   go_enter Tryz.func32,Tryz.ntmps32
   go_wp2
   go_ret
   exact ⟨rfl,rfl⟩
  ·have hr:decide (0≤c∧c<8)=false:=by simp [h2]
   rw [hr]
   go_enter Tryz.func32,Tryz.ntmps32
   go_wp2
   go_ret
   exact ⟨rfl,rfl⟩
 ·have hr:decide (0≤c∧c<8)=false:=by simp [h1]
  rw [hr]
  go_enter Tryz.func32,Tryz.ntmps32
  go_wp2
  go_ret
  exact ⟨rfl,rfl⟩
theorem Ya6 (x:Int) (w:World):Calls Tryz.prog 33 #[.int .i64 x] w fun e w'=>e=.returned (.agg #[.int .i64 x,.int .u64 0,.int .u64 0])∧w.grownBy w' none:=by
 have b:=Yab w (.cells #[.int .i64 0,.int .u64 0,.int .u64 0] 46)
 obtain ⟨y0,y1,y2⟩:=Yaf b
 obtain ⟨z0,z1,z2⟩:=Yak b
 have q:=Yaz b (x':=.int .i64 x) (y':=.int .u64 0) (z':=.int .u64 0)
 obtain ⟨k0,k1,k2⟩:=Yaf q
 go_enter Tryz.func33,Tryz.ntmps33
 go_wp2
 refine bodyPost_ret (v:=.agg #[.int .i64 x,.int .u64 0,.int .u64 0]) (by simp [results,Tryz.results33,go_sem,k0,k1,k2]) rfl ?_
 exact ⟨rfl,World.grownBy_alloc _ _ _⟩
theorem Ybg {c:Nat} (hc:c<8) (w:World):Calls Tryz.prog 38 #[.int .i64 c] w fun e w'=>e=.returned (.int .i64 ((c+1:Nat):Int))∧w=w':=by
 have h1:IntKind.i64.wrap ((c:Int)+1)=((c+1:Nat):Int):=by rw [IntKind.wrap_i64];omega
 go_enter Tryz.func38,Tryz.ntmps38
 go_wp2
 go_ret
 exact ⟨rfl,rfl⟩
theorem spare_any (x:KB) (w:World):Calls Tryz.prog 39 #[.agg #[.int .u64 (x.b.off:Nat),.int .u64 (x.b.s:Nat),.bool x.b.u,.int .i64 x.b.o,.int .u64 (x.b.n:Nat),.slice x.a x.m x.c]] w fun e w'=>e=.returned (.agg #[.int .u64 (x.b.off:Nat),.int .u64 (x.b.s:Nat),.bool false,.int .i64 0,.int .u64 0,.slice none 0 0])∧w.grownBy w' none:=by
 obtain ⟨⟨o,s,u,ow,n⟩,a,m,c,d⟩:=x
 have b:=Yab w (.cells #[.int .u64 (o:Nat),.int .u64 (s:Nat),.bool u,.int .i64 ow,.int .u64 (n:Nat),.slice a m c] 53)
 obtain ⟨W,hW⟩:∃ W,(w.alloc (.cells #[.int .u64 (o:Nat),.int .u64 (s:Nat),.bool u,.int .i64 ow,.int .u64 (n:Nat),.slice a m c] 53))=W:=⟨_,rfl⟩
 have hg:w.grownBy W none:=by rw [← hW];exact World.grownBy_alloc _ _ _
 have hs:W.heap.size=w.heap.size+1:=by rw [← hW];simp
 rw [hW] at b
 have b0:=Yab W (.cells #[.int .u64 0,.int .u64 0,.bool false,.int .i64 0,.int .u64 0,.slice none 0 0] 53)
 have g1:=World.grownBy_alloc W (.cells #[.int .u64 0,.int .u64 0,.bool false,.int .i64 0,.int .u64 0,.slice none 0 0] 53) none
 obtain ⟨y0,y1,y2,y3,y4,y5⟩:=Ya5 ((g1.block _ (lt_of_block b) (by simp)).trans b)
 have b2:=Yab W (.cells #[.int .u64 (o:Nat),.int .u64 (s:Nat),.bool false,.int .i64 0,.int .u64 0,.slice none 0 0] 53)
 obtain ⟨k0,k1,k2,k3,k4,k5⟩:=Ya5 b2
 rw [hs] at k0 k1 k2 k3 k4 k5
 go_enter Tryz.func39,Tryz.ntmps39
 go_wp2
 refine bodyPost_ret (v:=.agg #[.int .u64 (o:Nat),.int .u64 (s:Nat),.bool false,.int .i64 0,.int .u64 0,.slice none 0 0]) (by simp [results,Tryz.results39,go_sem,k0,k1,k2,k3,k4,k5]) rfl ?_
 exact ⟨rfl,Yaa hg (World.grownBy_alloc _ _ _)⟩
def cmpZ (x y:Nat):Int:=if x<y then -1 else if y<x then 1 else 0
theorem nan_any (x:Nat) (w:World):Calls Tryz.prog 140 #[.int .u64 x] w fun e w'=>e=.returned (.bool false)∧w=w':=by
 go_enter Tryz.func140,Tryz.ntmps140
 go_wp2
 go_ret
 exact ⟨rfl,rfl⟩
theorem compare_any (x y:Nat) (w:World):Calls Tryz.prog 120 #[.int .u64 x,.int .u64 y] w fun e w'=>e=.returned (.int .i64 (cmpZ x y))∧w=w':=by
 have hx:=fun z V=>nan_any z V
 rcases Nat.lt_trichotomy x y with h|h|h
 ·have hc:cmpZ x y = -1:=if_pos h
  have h1:(x:Int)<(y:Int):=by omega
  rw [hc]
  go_enter Tryz.func120,Tryz.ntmps120
  go_wp2_with (go_at_call 140;go_must ((with_reducible refine (hx _ _).mono ?_);rintro e w1 ⟨rfl,rfl⟩))
  go_ret
  exact ⟨rfl,rfl⟩
 ·subst h
  have hc:cmpZ x x=0:=by unfold cmpZ;rw [if_neg (by omega),if_neg (by omega)]
  have h1:¬ (x:Int)<(x:Int):=by omega
  rw [hc]
  go_enter Tryz.func120,Tryz.ntmps120
  go_wp2_with (go_at_call 140;go_must ((with_reducible refine (hx _ _).mono ?_);rintro e w1 ⟨rfl,rfl⟩))
  go_ret
  exact ⟨rfl,rfl⟩
 ·have hc:cmpZ x y=1:=by unfold cmpZ;rw [if_neg (by omega),if_pos h]
  have h1:¬ (x:Int)<(y:Int):=by omega
  have h2:(y:Int)<(x:Int):=by omega
  rw [hc]
  go_enter Tryz.func120,Tryz.ntmps120
  go_wp2_with (go_at_call 140;go_must ((with_reducible refine (hx _ _).mono ?_);rintro e w1 ⟨rfl,rfl⟩))
  go_ret
  exact ⟨rfl,rfl⟩
theorem place1_any (x:KB) (p:Nat) (ho:x.b.off+32<18446744073709551616) (w:World):Calls Tryz.prog 119 #[.agg #[.int .u64 (x.b.off:Nat),.int .u64 (x.b.s:Nat),.bool x.b.u,.int .i64 x.b.o,.int .u64 (x.b.n:Nat),.slice x.a x.m x.c],.int .u64 p] w fun e w'=>e=.returned (.int .i64 (cmpZ (x.b.off+32) p))∧w.grownBy w' none:=by
 obtain ⟨⟨o,s,u,ow,n⟩,a,m,c,d⟩:=x
 have b:=Yab w (.cells #[.int .u64 (o:Nat),.int .u64 (s:Nat),.bool u,.int .i64 ow,.int .u64 (n:Nat),.slice a m c] 53)
 have hg:=World.grownBy_alloc w (.cells #[.int .u64 (o:Nat),.int .u64 (s:Nat),.bool u,.int .i64 ow,.int .u64 (n:Nat),.slice a m c] 53) none
 obtain ⟨y0,y1,y2,y3,y4,y5⟩:=Ya5 b
 have h1:IntKind.u64.wrap ((o:Int)+32)=((o+32:Nat):Int):=by
  simp only at ho
  rw [IntKind.wrap_u64];omega
 have hc:=fun V=>compare_any (o+32) p V
 show Calls _ _ _ _ fun e w'=>e=.returned (.int .i64 (cmpZ (o+32) p))∧_
 obtain ⟨q,hq⟩:∃ q,o+32=q:=⟨_,rfl⟩
 rw [hq] at h1 hc ⊢
 clear ho hq
 go_enter Tryz.func119,Tryz.ntmps119
 go_wp2_with (go_at_call 120;go_must ((with_reducible refine (hc _).mono ?_);rintro e w1 ⟨rfl,rfl⟩))
 go_ret
 exact ⟨rfl,hg⟩
theorem pad_any {off a:Nat} (ha:Ybr a) (ho:off % 16=0) (hlt:off<1000000000) (w:World):Calls Tryz.prog 136 #[.int .u64 off,.int .u64 a] w fun e w'=>e=.returned (.int .u64 (padN off a:Nat))∧w=w':=by
 have hal:=ha.le
 obtain ⟨⟨k,hk,hak⟩,_,_⟩:=Yeh.1 ha
 have h1:IntKind.u64.wrap ((off:Int)+32)=((off+32:Nat):Int):=by rw [IntKind.wrap_u64];omega
 have h2:IntKind.u64.wrap (((off+32:Nat):Int)+48)=((off+80:Nat):Int):=by rw [IntKind.wrap_u64];omega
 have hup:=fun V=>up_pow_low (off+80) k a hk hak (by omega) V
 have ha0:¬ (a:Int)=0:=by omega
 by_cases hm:(off+32) % a=0
 ·have hp:padN off a=0:=if_pos hm
  have hm':((off+32:Nat):Int).tmod (a:Int)=0:=by rw [Int.tmod_eq_emod_of_nonneg (by omega)];exact_mod_cast hm
  rw [hp]
  obtain ⟨q,hq⟩:∃ q,off+32=q:=⟨_,rfl⟩
  rw [hq] at h1 hm'
  clear hup hak hal h2 hp hm hq
  go_enter Tryz.func136,Tryz.ntmps136
  go_wp2
  go_ret
  exact ⟨rfl,rfl⟩
 ·have hm':¬ ((off+32:Nat):Int) % (a:Int)=0:=by exact_mod_cast hm
  have hm2:((((off+32:Nat):Int) % (a:Int)) == 0)=false:=by rw [beq_eq_false_iff_ne];exact hm'
  have hr:(off+80+(a - 1)) / a*a=off+32+padN off a:=by
   have e1:=padN_is ha ho
   unfold padN
   rw [if_neg hm]
   clear e1 hup hak h1 h2 hm' hm2
   rcases ha with rfl|rfl|rfl|rfl|rfl|rfl|rfl|rfl|rfl <;> split <;> omega
  obtain ⟨P,hP⟩:∃ P,padN off a=P:=⟨_,rfl⟩
  rw [hr,hP] at hup
  rw [hP]
  have hPl:P<1000000000:=by
   have:=padN_al ha ho
   rw [← hP];unfold padN;split
   ·omega
   ·split <;> omega
  have h3:IntKind.u64.wrap (((off+32+P:Nat):Int) - ((off+32:Nat):Int))=(P:Nat):=by rw [IntKind.wrap_u64];omega
  obtain ⟨q,hq⟩:∃ q,off+32=q:=⟨_,rfl⟩
  obtain ⟨r,hr2⟩:∃ r,off+80=r:=⟨_,rfl⟩
  obtain ⟨z,hz⟩:∃ z,off+32+P=z:=⟨_,rfl⟩
  rw [hq] at h1 h2 h3 hm' hm2
  rw [hr2] at h2 hup
  rw [hz] at hup
  rw [← hq,hz,hq] at h3
  clear hak hal hr hP hPl hm hq hr2 hz
  go_enter Tryz.func136,Tryz.ntmps136
  go_wp2_with (go_at_call 115;go_must ((with_reducible refine (hup _).mono ?_);rintro e w1 ⟨rfl,rfl⟩))
  go_ret
  exact ⟨rfl,rfl⟩
end
section
theorem info_kb:(Tryz.prog.info? 53).map (fun i=>(i.zero,i.size,i.bytes))=some (some (.agg #[.int .u64 0,.int .u64 0,.bool false,.int .i64 0,.int .u64 0,.slice none 0 0]),6,64):=by kernel_rfl
theorem info_kb6:(Tryz.prog.info? 53).map (·.size)=some 6:=by kernel_rfl
section
variable {w w':World} {g cap n m:Nat} {f:Nat→KB}
theorem cells_lit (W:World) (x:KB):∀ j u,x.cel[j]?=some u→(W.alloc (.cells #[.int .u64 (x.b.off:Nat),.int .u64 (x.b.s:Nat),.bool x.b.u,.int .i64 x.b.o,.int .u64 (x.b.n:Nat),.slice x.a x.m x.c] 53)).cell? ((⟨W.heap.size,0,none⟩:Addr).add j)=some u:=by
 intro j u hj
 have h:=Yab W (.cells #[.int .u64 (x.b.off:Nat),.int .u64 (x.b.s:Nat),.bool x.b.u,.int .i64 x.b.o,.int .u64 (x.b.n:Nat),.slice x.a x.m x.c] 53)
 have hadd:(⟨W.heap.size,0,none⟩:Addr).add j=⟨W.heap.size,j,none⟩:=by unfold Addr.add;split <;> simp_all
 rw [hadd]
 obtain ⟨c0,c1,c2,c3,c4,c5⟩:=Ya5 h
 have hlt:j<6:=(List.getElem?_eq_some_iff.1 hj).1
 rcases (show j=0∨j=1∨j=2∨j=3∨j=4∨j=5 by omega) with rfl|rfl|rfl|rfl|rfl|rfl
 ·exact c0.trans hj
 ·exact c1.trans hj
 ·exact c2.trans hj
 ·exact c3.trans hj
 ·exact c4.trans hj
 ·exact c5.trans hj
def ovrK (cs:Array Value) (o:Nat):List Value→Array Value
 | []=>cs
 | v::r=>ovrK (cs.setIfInBounds o v) (o+1) r
theorem ovrK_size (vs:List Value):∀ (cs:Array Value) (o:Nat),(ovrK cs o vs).size=cs.size:=by
 induction vs with
 | nil=>intro cs o;rfl
 | cons v r ih=>intro cs o;unfold ovrK;rw [ih];simp
theorem ovrK_out (vs:List Value):∀ (cs:Array Value) (o i:Nat),i<o→(ovrK cs o vs)[i]?=cs[i]?:=by
 induction vs with
 | nil=>intro cs o i h;rfl
 | cons v r ih =>
  intro cs o i h
  unfold ovrK
  rw [ih _ _ _ (by omega),Array.getElem?_setIfInBounds_ne (by omega)]
theorem Yc5 {b:Nat} {t:TypeId}:∀ (vs:List Value) (w:World) (cs:Array Value) (o:Nat),w.heap[b]?=some (.cells cs t (0,0))→(w.setCells b o vs).heap[b]?=some (.cells (ovrK cs o vs) t (0,0))∧w.grownBy (w.setCells b o vs) (some b)
 | [],w,cs,o,h=>⟨h,Yam (Yag w none) _⟩
 | v::r,w,cs,o,h=>by
  obtain ⟨h1,h2⟩:=Yc5 r _ _ (o+1) (show (w.setCell ⟨b,o,none⟩ v).heap[b]?=some (.cells (cs.setIfInBounds o v) t (0,0)) by rw [Yar h v])
  exact ⟨h1,Yaa (Yac _ _ _ _) h2⟩
theorem rowF_set6 {cur:Array Value} (hs:cur.size=cap*6) (hle:n≤cap) (hc:∀ j,j<n→∀ i,i<6→cur[j*6+i]?=(f j).cel[i]?) {x:KB} (hm:m<cap) :
  ∀ j,j<n∨j=m→∀ i,i<6→((cur.toList.take (m*6)++x.cel++cur.toList.drop (m*6+6)).toArray)[j*6+i]?=(updK f m x j).cel[i]?:=by
 intro j hj i hi
 have hl:cur.toList.length=cap*6:=by simpa using hs
 have ht:(cur.toList.take (m*6)).length=m*6:=by rw [List.length_take,hl];omega
 simp only [List.getElem?_toArray,List.append_assoc]
 by_cases e:j=m
 ·subst e
  rw [Yby,List.getElem?_append_right (by omega),ht,show j*6+i - j*6=i by omega,List.getElem?_append_left (by rw [KB.cel_len];exact hi)]
 ·rw [Ydu e]
  have hj':j<n:=by omega
  rw [← hc j hj' i hi]
  rcases Nat.lt_or_ge j m with h1|h1
  ·rw [List.getElem?_append_left (by omega),List.getElem?_take_of_lt (by omega)];simp
  ·rw [List.getElem?_append_right (by omega),ht,List.getElem?_append_right (by rw [KB.cel_len];omega),KB.cel_len,List.getElem?_drop]
   rw [show m*6+6+(j*6+i - m*6 - 6)=j*6+i by omega]
   simp
theorem Ydt {w2:World} (h:RowF w2 g cap n f) (hm:m<n) (x:KB)
  {ops:Array Oper} {rest:List Oper} {o:Oper} {a:Act} {Q:Exit→Act→World→Prop} (hgd:o.guard=none) (s y:Operand)
  (ho:o.op=.call { callee:=.builtin .append,args:=#[s,y],argTypes:=#[50,50] })
  (hs:a.eval s=.slice (some ⟨g,0,none⟩) m cap) (hy:a.eval y=.slice (some ⟨w2.heap.size,0,none⟩) 1 1)
  (hk:∀ w',RowF w' g cap n (updK f m x)→w2.grownBy w' (some g)→wpList Tryz.prog ops Q rest (a.put o.dst (.slice (some ⟨g,0,none⟩) (m+1) cap)) w') :
  wpList Tryz.prog ops Q (o::rest) a (w2.alloc (.cells #[.int .u64 (x.b.off:Nat),.int .u64 (x.b.s:Nat),.bool x.b.u,.int .i64 x.b.o,.int .u64 (x.b.n:Nat),.slice x.a x.m x.c] 53)):=by
 obtain ⟨i0,hi,hz0,hz1,hz2⟩:=info_parts info_kb
 have hga:=World.grownBy_alloc w2 (.cells #[.int .u64 (x.b.off:Nat),.int .u64 (x.b.s:Nat),.bool x.b.u,.int .i64 x.b.o,.int .u64 (x.b.n:Nat),.slice x.a x.m x.c] 53) none
 have h':=h.later hga
 obtain ⟨cur,h1,h2,h3⟩:=h'.ex
 have hle:=h.le
 have hr:=run_append_room (P:=Tryz.prog) _ 50 o.type 53 i0 Tryz.underlying50 hi g m cap cur h1 ⟨w2.heap.size,0,none⟩ 1 1 x.cel (by rw [hz1];rfl) (cells_lit w2 x) x.cel_one (by omega) (by rw [hz1,KB.cel_len,h2];omega)
 refine Lib.wpList_append_run _ hgd s y _ _ ho _ _ hs hy _ _ hr ?_
 rw [hz1,KB.cel_len]
 have hrow:=setRow_heap _ g cur (cur.toList.take (m*6)++x.cel++cur.toList.drop (m*6+6)).toArray _ _ h1
 refine hk _ ⟨⟨_,hrow,?_,fun j hj i hi=>rowF_set6 h2 hle h3 (by omega) j (.inl hj) i hi⟩,hle,h.cap⟩ ?_
 ·have hl:cur.toList.length=cap*6:=by simpa using h2
  simp only [List.size_toArray,List.length_append,List.length_take,List.length_drop,KB.cel_len,hl]
  omega
 ·refine Yaa (Yam hga _) ⟨rfl,rfl,rfl,by simp [World.setRow],fun k hk hne=>setRow_other _ _ _ _ (fun e=>hne (by rw [e]))⟩
theorem wp_clear_run {P:Program} (w:World) {o:Oper} {a:Act} {K:Act→World→Prop} {Q:Exit→Act→World→Prop} (s:Operand) (t:TypeId)
  (ho:o.op=.call { callee:=.builtin .clear,args:=#[s],argTypes:=#[t] }) (vs:Value) (hs:a.eval s=vs)
  (v':Value) (w':World) (hr:(Builtin.clear_ #[t] o.type #[vs]).run P w=.ok v' w') (h:K (a.put o.dst v') w'):o.wp P a w K Q:=by
 unfold Oper.wp execOp
 simp only [ho,resolve,invoke,builtin,Sem.run_bind,Sem.run_pure,Result.andThen_ok,List.map_toArray,List.map_cons,List.map_nil,hs,hr]
 exact h
theorem wpList_clear_kb (h:RowF w g cap n f) (hm:m≤n)
  {ops:Array Oper} {rest:List Oper} {o:Oper} {a:Act} {Q:Exit→Act→World→Prop} (hgd:o.guard=none) (s:Operand) {c:Nat} {ad:Option Addr}
  (ho:o.op=.call { callee:=.builtin .clear,args:=#[s],argTypes:=#[50] })
  (hs:a.eval s=.slice ad (n - m) c) (had:m<n→ad=some ⟨g,m*6,none⟩)
  (hk:∀ w',RowF w' g cap m f→w.grownBy w' (some g)→wpList Tryz.prog ops Q rest (a.put o.dst (.tuple #[])) w') :
  wpList Tryz.prog ops Q (o::rest) a w:=by
 have hle:=h.le
 by_cases h0:m=n
 ·subst h0
  rw [Nat.sub_self] at hs
  have hr:(Builtin.clear_ #[50] o.type #[.slice ad 0 c]).run Tryz.prog w=.ok (.tuple #[]) w:=by
   have hu:=run_underlying Tryz.underlying50
   cases ad <;> simp [Builtin.clear_,hu]
  exact wpList_plain hgd fun _ hK=>wp_clear_run w s _ ho _ hs _ _ hr (hK _ _ (hk w h (Yag _ _)))
 ·have hlt:m<n:=by omega
  rw [had hlt] at hs
  have hz:∀ w,(zeroValue 53).run Tryz.prog w=.ok (.agg #[.int .u64 0,.int .u64 0,.bool false,.int .i64 0,.int .u64 0,.slice none 0 0]) w:=fun w=>by kernel_rfl
  have hl:(Builtin.zeroCells (Value.agg #[.int .u64 0,.int .u64 0,.bool false,.int .i64 0,.int .u64 0,.slice none 0 0]).cells (n - m)).toList.length=(n - m)*6:=by
   simp [Builtin.zeroCells,Value.cells]
  have hone:∀ v∈(Builtin.zeroCells (Value.agg #[.int .u64 0,.int .u64 0,.bool false,.int .i64 0,.int .u64 0,.slice none 0 0]).cells (n - m)).toList,v.oneCell'=true:=by
   intro v hv
   simp only [Builtin.zeroCells,Value.cells,Array.toList_map,List.mem_map] at hv
   obtain ⟨i,_,rfl⟩:=hv
   have:i % 6<6:=Nat.mod_lt _ (by decide)
   simp only [List.size_toArray,List.length_cons,List.length_nil,Nat.reduceAdd]
   rcases (show i % 6=0∨i % 6=1∨i % 6=2∨i % 6=3∨i % 6=4∨i % 6=5 by omega) with e|e|e|e|e|e <;> simp [e,Value.oneCell']
  obtain ⟨vs,hvs⟩:∃ vs,(Builtin.zeroCells (Value.agg #[.int .u64 0,.int .u64 0,.bool false,.int .i64 0,.int .u64 0,.slice none 0 0]).cells (n - m)).toList=vs:=⟨_,rfl⟩
  rw [hvs] at hl hone
  have hst:=run_storeCells_cells (P:=Tryz.prog) g (m*6) vs 0 w (fun j hj=>h.has (by rw [hl] at hj;omega)) (fun j hj=>h.frz _) hone
  simp only [Nat.add_zero] at hst
  have hr:(Builtin.clear_ #[50] o.type #[.slice (some ⟨g,m*6,none⟩) (n - m) c]).run Tryz.prog w=.ok (.tuple #[]) (w.setCells g (m*6) vs):=by
   have hu:=run_underlying (P:=Tryz.prog) Tryz.underlying50
   obtain ⟨q,hq⟩:∃ q,n - m=q+1:=⟨n - m - 1,by omega⟩
   rw [hq] at hvs ⊢
   simp [Builtin.clear_,hu,hz,hvs,hst]
  refine wpList_plain hgd fun _ hK=>wp_clear_run w s _ ho _ hs _ _ hr (hK _ _ (hk _ ?_ ?_))
  ·obtain ⟨cur,h1,h2,h3⟩:=h.ex
   obtain ⟨q1,q2⟩:=Yc5 (b:=g) vs w cur (m*6) h1
   exact ⟨⟨_,q1,by rw [ovrK_size,h2],fun j hj i hi=>by
    rw [ovrK_out _ _ _ _ (by omega)]
    exact h3 j (by omega) i hi⟩,by omega,h.cap⟩
  ·obtain ⟨cur,h1,h2,h3⟩:=h.ex
   exact (Yc5 (b:=g) vs w cur (m*6) h1).2
end
end
section
section
variable {w w':World} {g cap n p:Nat} {f:Nat→KB}
theorem place1_eg:∀ args w,(callFunc 119 args).run Tryz.prog w=.ok (.enter 119 args) w:=enters_of Tryz.func119 (by kernel_rfl) rfl
structure Srch (f:Nat→KB) (n p i j:Nat):Prop where
 le:i≤j
 ln:j≤n
 lo:∀ k,k<i→(f k).b.off+32<p
 hi:∀ k,j≤k→k<n→p≤(f k).b.off+32
def SrchP (f:Nat→KB) (n p:Nat) (w:World) (e:Ending) (w':World):Prop:=∃ (i:Nat) (ok:Bool),e=.returned (.tuple #[.int .i64 (i:Nat),.bool ok])∧Srch f n p i i∧(ok=true↔i<n∧(f i).b.off+32=p)∧w.grownBy w' none
theorem cmpZ_neg {x y:Nat}:cmpZ x y<0↔x<y:=by
 unfold cmpZ
 split
 ·simp_all
 ·split <;> simp_all <;> omega
theorem cmpZ_zero {x y:Nat}:cmpZ x y=0↔x=y:=by
 unfold cmpZ
 split
 ·constructor
  ·intro h;cases h
  ·intro h;omega
 ·split
  ·constructor
   ·intro h;cases h
   ·intro h;omega
  ·constructor
   ·intro h;omega
   ·intro h;rfl
set_option maxHeartbeats 1000000 in
theorem search_any (h:RowF w g cap n f) (hn:n≤1000000) (hs:∀ i j,i<j→j<n→(f i).b.off≤(f j).b.off) (ho:∀ j,j<n→(f j).b.off<1000000000) (p:Nat) :
  Calls Tryz.prog 118 #[.slice (some ⟨g,0,none⟩) n cap,.int .u64 p,.func (.func 119) #[] #[]] w (SrchP f n p w):=by
 show Calls _ _ _ _ fun e w'=>SrchP f n p w e w'
 have HH:=Lib.hid h
 have HO:=Lib.hid ho
 have HS:=Lib.hid hs
 have eg:=place1_eg
 clear h ho hs
 go_enter Tryz.func118,Tryz.ntmps118
 go_wp2
 go_loopw [9,10] (fun vi vj wr=>∃ i j:Nat,vi=.int .i64 i∧vj=.int .i64 j∧Hid (Srch f n p i j)∧j≤n∧w.grownBy wr none) (fun vi vj _=>(intOf vj).toNat - (intOf vi).toNat)
 case atStart=>exact ⟨0,n,rfl,rfl,Lib.hid ⟨Nat.zero_le _,Nat.le_refl _,fun k hk=>absurd hk (Nat.not_lt_zero _),fun k h1 h2=>by omega⟩,Nat.le_refl _,Yag _ _⟩
 case round =>
  obtain ⟨i,j,rfl,rfl,HR,hjn,hg⟩:=hrel
  by_cases h1:i<j
  ·have h1':(i:Int)<(j:Int):=by omega
   obtain ⟨q,hq⟩:∃ q,(i+j) / 2=q:=⟨_,rfl⟩
   have hqn:q<n:=by omega
   obtain ⟨t,ht⟩:∃ t,i+j=t:=⟨_,rfl⟩
   have w1:IntKind.i64.wrap ((i:Int)+(j:Int))=(t:Nat):=by rw [IntKind.wrap_i64];omega
   obtain ⟨c0,c1,c2,c3,c4,c5⟩:=(HH.out.later hg).cells hqn
   have hcall:=place1_any (f q) p (by have:=HO.out q hqn;omega) wr
   have hq2:(t:Int) / 2=(q:Nat):=by omega
   have q1:(q:Int)<(n:Int):=by omega
   obtain ⟨z,hz⟩:∃ z,cmpZ ((f q).b.off+32) p=z:=⟨_,rfl⟩
   have hzn:=cmpZ_neg (x:=(f q).b.off+32) (y:=p)
   rw [hz] at hcall hzn
   have HZN:=Lib.hid hzn
   have HQ:=Lib.hid (show i≤q∧q<j by omega)
   have hle:q≤n:=by omega
   clear hzn hz hq ht
   by_cases hzz:z<0
   ·have w2:IntKind.i64.wrap ((q:Int)+1)=((q+1:Nat):Int):=by rw [IntKind.wrap_i64];omega
    go_wp2_with (go_at_fn 119;refine hcall.mono ?_;rintro e w' ⟨rfl,hg1⟩)
    go_roundw
    case rel =>
     refine ⟨q+1,j,by go_num,rfl,Lib.hid ⟨HQ.out.2,hjn,fun k hk=>?_,HR.out.hi⟩,hjn,Yaa hg hg1⟩
     have h3:=HZN.out.1 hzz
     rcases Nat.lt_or_ge k q with h4|h4
     ·have:=HS.out k q h4 hqn;omega
     ·rw [show k=q by omega];exact h3
    case measure=>have:=HQ.out;simp [intOf];omega
   ·go_wp2_with (go_at_fn 119;refine hcall.mono ?_;rintro e w' ⟨rfl,hg1⟩)
    go_roundw
    case rel =>
     refine ⟨i,q,rfl,rfl,Lib.hid ⟨HQ.out.1,hle,HR.out.lo,fun k hk hkn=>?_⟩,hle,Yaa hg hg1⟩
     have h3:¬ (f q).b.off+32<p:=fun h=>absurd (HZN.out.2 h) (by omega)
     rcases Nat.lt_or_ge q k with h4|h4
     ·have:=HS.out q k h4 hkn;omega
     ·rw [show k=q by omega];omega
    case measure=>have:=HQ.out;simp [intOf];omega
  ·have hij:i=j:=by have:=HR.out.le;omega
   subst hij
   have h1':¬ (i:Int)<(i:Int):=by omega
   by_cases h2:i<n
   ·have h2':(i:Int)<(n:Int):=by omega
    obtain ⟨c0,c1,c2,c3,c4,c5⟩:=(HH.out.later hg).cells h2
    have hcall:=place1_any (f i) p (by have:=HO.out i h2;omega) wr
    obtain ⟨z,hz⟩:∃ z,cmpZ ((f i).b.off+32) p=z:=⟨_,rfl⟩
    have hzn:=cmpZ_zero (x:=(f i).b.off+32) (y:=p)
    rw [hz] at hcall hzn
    have HZN:=Lib.hid hzn
    have H2:=Lib.hid h2
    clear hzn hz
    by_cases hzz:z=0
    ·subst hzz
     go_wp2_with (go_at_fn 119;refine hcall.mono ?_;rintro e w' ⟨rfl,hg1⟩)
     go_ret2
     exact ⟨i,true,rfl,HR.out,⟨fun _=>⟨H2.out,HZN.out.1 (by first|exact rfl|exact trivial)⟩,fun _=>rfl⟩,Yaa hg hg1⟩
    ·have hzb:(z == 0)=false:=by rw [beq_eq_false_iff_ne];exact hzz
     go_wp2_with (go_at_fn 119;refine hcall.mono ?_;rintro e w' ⟨rfl,hg1⟩)
     go_ret2
     exact ⟨i,false,rfl,HR.out,⟨fun h=>by (cases h),fun h=>absurd (HZN.out.2 h.2) hzz⟩,Yaa hg hg1⟩
   ·have h2':¬ (i:Int)<(n:Int):=by omega
    obtain rfl:i=n:=by omega
    go_wp2
    go_ret2
    exact ⟨i,false,rfl,HR.out,⟨fun h=>by (cases h),fun h=>absurd h.1 h2⟩,hg⟩
structure StB (w:World) (P g cap n all:Nat) (f:Nat→KB) (mv:Value) (lv:Nat→Bool):Prop where
 box:w.heap[P]?=some (.cells (stC all (.slice (some ⟨g,0,none⟩) n cap) mv lv) 91 (0,0))
 row:RowF w g cap n f
theorem StB.later {P all:Nat} {mv:Value} {lv:Nat→Bool} (h:StB w P g cap n all f mv lv) (hg:w.grownBy w' none):StB w' P g cap n all f mv lv :=
 ⟨(hg.block _ (lt_of_block h.box) (by simp)).trans h.box,h.row.later hg⟩
theorem StB.cells {P all:Nat} {mv:Value} {lv:Nat→Bool} (h:StB w P g cap n all f mv lv):w.cell? ⟨P,0,none⟩=some (.int .u64 (all:Nat))∧w.cell? ⟨P,1,none⟩=some (.slice (some ⟨g,0,none⟩) n cap)∧w.cell? ⟨P,2,none⟩=some mv:=by
 have hb:=h.box
 refine ⟨?_,?_,?_⟩ <;> simp [World.cell?,hb,stC]
theorem StB.frz {P all:Nat} {mv:Value} {lv:Nat→Bool} (h:StB w P g cap n all f mv lv) (i:Nat):w.frozen? ⟨P,i,none⟩=false:=by
 have hb:=h.box
 simp [World.frozen?,hb]
set_option maxHeartbeats 1000000 in
theorem place_any {P all:Nat} {mv:Value} {lv:Nat→Bool} (h:StB w P g cap n all f mv lv) (hn:n≤1000000) (hs:∀ i j,i<j→j<n→(f i).b.off≤(f j).b.off) (ho:∀ j,j<n→(f j).b.off<1000000000) (p:Nat) :
  Calls Tryz.prog 96 #[.pointer (some ⟨P,0,none⟩),.int .u64 p] w fun e w'=>∃ i ok,e=.returned (.tuple #[.int .i64 (i:Nat),.bool ok])∧Srch f n p i i∧(ok=true↔i<n∧(f i).b.off+32=p∧(f i).b.u=true)∧w.grownBy w' none:=by
 have hse:=search_any h.row hn hs ho p
 obtain ⟨c0,c1,c2⟩:=h.cells
 have HB:=Lib.hid h
 clear h hs ho
 go_enter Tryz.func96,Tryz.ntmps96
 go_wp2_with (go_at_call 118;go_must ((with_reducible refine hse.mono ?_);rintro e w1 ⟨i,ok,rfl,hR,hok,hg⟩))
 have HK:=Lib.hid hok
 clear hok hse c0 c1 c2
 cases ok with
 | false =>
  go_quiet (fail)
  go_wp2
  go_ret2
  exact ⟨i,false,rfl,hR,⟨fun h=>by (cases h),fun h=>HK.out.2 ⟨h.1,h.2.1⟩⟩,Yaa hg (Ybl _ _)⟩
 | true =>
  obtain ⟨h1,h2⟩:=HK.out.1 rfl
  have h1':(i:Int)<(n:Int):=by omega
  obtain ⟨d0,d1,d2⟩:=(HB.out.later hg).cells
  obtain ⟨b0,b1,b2,b3,b4,b5⟩:=(HB.out.later hg).row.cells h1
  have H12:=Lib.hid (And.intro h1 h2)
  clear h1 h2 HK
  go_quiet (fail)
  go_wp2
  go_ret2
  exact ⟨i,_,rfl,hR,⟨fun h=>⟨H12.out.1,H12.out.2,h⟩,fun h=>h.2.2⟩,Yaa hg (Ybl _ _)⟩
end
end
section
def Ybv (X:List KB):List Value:=X.flatMap KB.cel
theorem Yci (X:List KB):(Ybv X).length=X.length*6:=by
 induction X with
 | nil=>rfl
 | cons x r ih =>
  show (x.cel++Ybv r).length=_
  rw [List.length_append,ih,KB.cel_len,List.length_cons]
  omega
theorem Yez (X:List KB):∀ (j i:Nat),j<X.length→i<6→(Ybv X)[j*6+i]?=(X.getD j default).cel[i]?:=by
 induction X with
 | nil=>intro j i h;cases h
 | cons x r ih =>
  intro j i h hi
  show (x.cel++Ybv r)[j*6+i]?=_
  rcases j with _|j
  ·rw [List.getElem?_append_left (by rw [KB.cel_len];omega),Nat.zero_mul,Nat.zero_add];rfl
  ·rw [List.getElem?_append_right (by rw [KB.cel_len];omega),KB.cel_len,show (j+1)*6+i - 6=j*6+i by omega,ih j i (by simpa using h) hi];rfl
theorem cellsK_one (X:List KB):∀ v∈Ybv X,v.oneCell'=true:=by
 intro v hv
 obtain ⟨x,_,h⟩:=List.mem_flatMap.1 hv
 exact x.cel_one v h
theorem ovrK_at (vs:List Value):∀ (cs:Array Value) (o i:Nat),o+vs.length≤cs.size→(ovrK cs o vs)[i]?=if o≤i∧i<o+vs.length then vs[i - o]? else cs[i]?:=by
 induction vs with
 | nil=>intro cs o i h;unfold ovrK;rw [if_neg (fun h=>by have:=h.2;simp only [List.length_nil] at this;omega)]
 | cons v r ih =>
  intro cs o i h
  have hl:(v::r).length=r.length+1:=rfl
  unfold ovrK
  rw [ih _ _ _ (by simp;omega)]
  by_cases h1:o+1≤i∧i<o+1+r.length
  ·rw [if_pos h1,if_pos (by omega),show i - o=(i - (o+1))+1 by omega,List.getElem?_cons_succ]
  ·rw [if_neg h1]
   by_cases h2:i=o
   ·subst h2
    rw [if_pos (by omega),Nat.sub_self,List.getElem?_cons_zero,Array.getElem?_setIfInBounds_self_of_lt (by omega)]
   ·rw [if_neg (by omega),Array.getElem?_setIfInBounds_ne (Ne.symm h2)]
def ovrF (f:Nat→KB) (q:Nat) (X:List KB):Nat→KB:=fun j=>if q≤j∧j<q+X.length then X.getD (j - q) default else f j
section
variable {w w':World} {g cap n m p q:Nat} {f:Nat→KB} {X:List KB}
theorem RowF.over (h:RowF w g cap n f) (hq:q≤n) {n':Nat} (hn:n'≤n∨n'≤q+X.length) (hc:q+X.length≤cap):RowF (w.setCells g (q*6) (Ybv X)) g cap n' (ovrF f q X)∧w.grownBy (w.setCells g (q*6) (Ybv X)) (some g):=by
 obtain ⟨cur,h1,h2,h3⟩:=h.ex
 obtain ⟨q1,q2⟩:=Yc5 (b:=g) (Ybv X) w cur (q*6) h1
 have hl:=Yci X
 have hle:=h.le
 refine ⟨⟨⟨_,q1,by rw [ovrK_size,h2],fun j hj i hi=>?_⟩,by omega,h.cap⟩,q2⟩
 rw [ovrK_at _ _ _ _ (by rw [hl,h2];omega),hl]
 unfold ovrF
 by_cases hin:q≤j∧j<q+X.length
 ·rw [if_pos hin,if_pos (by omega),show j*6+i - q*6=(j - q)*6+i by omega]
  exact Yez X _ _ (by omega) hi
 ·rw [if_neg hin,if_neg (by omega)]
  exact h3 j (by omega) i hi
theorem RowF.src (h:RowF w g cap n f) (hX:q+X.length≤n) (he:∀ j,j<X.length→X.getD j default=f (q+j)):∀ j v,(Ybv X)[j]?=some v→w.cell? ⟨g,q*6+j,none⟩=some v:=by
 intro j v hj
 have hlt:j<X.length*6:=by rw [← Yci];exact (List.getElem?_eq_some_iff.1 hj).1
 have hj2:j=j / 6*6+j % 6:=by omega
 have h6:j % 6<6:=Nat.mod_lt _ (by decide)
 rw [hj2,Yez X _ _ (by omega) h6,he _ (by omega)] at hj
 rw [show q*6+j=(q+j / 6)*6+j % 6 by omega,h.cell (by omega) h6]
 exact hj
theorem run_copy6 (w:World) (ty:TypeId) (b o dLen dCap:Nat) (a:Addr) (sLen sCap:Nat) (X:List KB)
  (hn:X.length=Nat.min sLen dLen)
  (hsrc:∀ j v,(Ybv X)[j]?=some v→w.cell? (a.add j)=some v) (hc:∀ j,j<X.length*6→(w.cell? ⟨b,o+j,none⟩).isSome=true) (hf:∀ j,j<X.length*6→w.frozen? ⟨b,o+j,none⟩=false) :
  (Builtin.copy_ #[50,50] ty #[.slice (some ⟨b,o,none⟩) dLen dCap,.slice (some a) sLen sCap]).run Tryz.prog w=.ok (goInt X.length) (w.setCells b o (Ybv X)):=by
 have hl:=run_loadCells_list (P:=Tryz.prog) w a (Ybv X) hsrc
 have hst:=run_storeCells_cells (P:=Tryz.prog) b o (Ybv X) 0 w (by simpa [Yci] using hc) (by simpa [Yci] using hf) (cellsK_one X)
 obtain ⟨i0,hi,hz0,hz1,hz2⟩:=info_parts info_kb
 have hu:=run_underlying (P:=Tryz.prog) Tryz.underlying50
 rw [Yci] at hl
 simp [Builtin.copy_,hu,Builtin.lenOf,Builtin.firstCells,sizeOf,typeInfo,hi,hz1,← hn,hl,hst]
def Yde (f:Nat→KB) (n:Nat):List Value:=Ybv ((List.range n).map f)
theorem cellsF_snoc (f:Nat→KB) (n:Nat):Yde f (n+1)=Yde f n++(f n).cel:=by
 unfold Yde Ybv
 rw [List.range_succ,List.map_append,List.flatMap_append]
 simp
theorem rangeK_at {j:Nat} (hj:j<n):((List.range n).map f).getD j default=f j:=by
 rw [List.getD_eq_getElem?_getD,List.getElem?_map,List.getElem?_range hj]
 rfl
theorem RowF.owns (h:RowF w g cap n f):w.ownsRow 0 53 6 (.slice (some ⟨g,0,none⟩) n cap) n (Yde f n):=by
 obtain ⟨cur,h1,h2,h3⟩:=h.ex
 refine ⟨by unfold Yde;rw [Yci];simp,.inr ⟨g,cap,cur,rfl,Nat.zero_le _,h1,h.le,h.cap,h2,?_⟩⟩
 apply List.ext_getElem?
 intro i
 by_cases hi:i<n*6
 ·have e:i=i / 6*6+i % 6:=by omega
  have h6:i % 6<6:=Nat.mod_lt _ (by decide)
  rw [List.getElem?_take_of_lt hi]
  have:=h3 (i / 6) (by omega) (i % 6) h6
  unfold Yde
  rw [e,Yez _ _ _ (by simp;omega) h6,rangeK_at (by omega),← this]
  simp
 ·rw [List.getElem?_eq_none (by rw [List.length_take];omega),List.getElem?_eq_none (by unfold Yde;rw [Yci];simp;omega)]
theorem RowF.of_owns {v:Value} (h:w.ownsRow 0 53 6 v n (Yde f n)) (hn:0<n):∃ g cap,v=.slice (some ⟨g,0,none⟩) n cap∧RowF w g cap n f:=by
 rcases h.2 with ⟨_,h0⟩|⟨g,cap,cur,hv,_,hg,h3,h4,h5,h6⟩
 ·omega
 ·refine ⟨g,cap,hv,⟨cur,hg,h5,fun j hj i hi=>?_⟩,h3,h4⟩
  have e:=Yez ((List.range n).map f) j i (by simpa using hj) hi
  rw [rangeK_at hj] at e
  rw [← e]
  show cur[j*6+i]?=(Yde f n)[j*6+i]?
  rw [← h6,List.getElem?_take_of_lt (by omega)]
  simp
def insF (f:Nat→KB) (p:Nat) (x:KB):Nat→KB:=fun j=>if j<p then f j else if j=p then x else f (j - 1)
theorem cellsF_congr {f':Nat→KB} (h:∀ j,j<n→f' j=f j):Yde f' n=Yde f n:=by
 unfold Yde
 rw [List.map_congr_left fun j hj=>h j (List.mem_range.1 hj)]
theorem insF_end (f:Nat→KB) (n:Nat) (x:KB):Yde (insF f n x) (n+1)=Yde f n++x.cel:=by
 rw [cellsF_snoc,cellsF_congr (f':=insF f n x) (f:=f) (fun j hj=>if_pos hj)]
 congr 2
 unfold insF
 rw [if_neg (by omega),if_pos rfl]
end
end
end Go.Proofs.YtfhiljglfhekdaaGreat
