/-
  Texts of one layer, one behind the other: memory, contracts of the functions, and what follows of them.
  Conditions: as each theorem says.
-/
import Derived.Test.YtfhiljglfhekdaaGreatLWoa
import Derived.Laws.BitsAllLaws
import Derived.Deep.LoopGhost
import Derived.LoopTactic
import Derived.Deep.OwnRows
import Derived.Laws.BytesArg
import Derived.Laws.IdiomStrings
import Derived.RegionTactic
import Derived.ChangeAlike
import Derived.BigRegion
set_option linter.unusedVariables false
set_option linter.unusedSimpArgs false
set_option maxRecDepth 100000
namespace Go.Proofs.YtfhiljglfhekdaaGreat
open Go.RowKit
section
theorem mul_parts (x y x1 x0 y1 y0 a b c d:Nat) (ex:x=4294967296*x1+x0) (ey:y=4294967296*y1+y0) (ea:x1*y1=a) (eb:x1*y0=b) (ec:x0*y1=c) (ed:x0*y0=d) :
  x*y=18446744073709551616*a+4294967296*(b+c)+d:=by
 subst ea eb ec ed
 rw [ex,ey,Nat.add_mul,Nat.mul_add,Nat.mul_add,Nat.mul_mul_mul_comm,Nat.mul_assoc 4294967296 x1 y0,Nat.mul_left_comm x0 4294967296 y1]
 omega
theorem half_le (x y:Nat) (hx:x≤4294967295) (hy:y≤4294967295):x*y≤18446744065119617025:=Nat.mul_le_mul hx hy
theorem mul64_named (x y x1 x0 y1 y0 a b c d d1 t t1 t0 v v1:Nat) (hx0:bits .and .u64 (x:Int) 4294967295=(x0:Int)) (hx1:(x:Int) / 4294967296=(x1:Int)) (hy0:bits .and .u64 (y:Int) 4294967295=(y0:Int)) (hy1:(y:Int) / 4294967296=(y1:Int))
  (ha:(x1:Int)*(y1:Int)=(a:Int)) (hb:(x1:Int)*(y0:Int)=(b:Int)) (hc:(x0:Int)*(y1:Int)=(c:Int)) (hd:(x0:Int)*(y0:Int)=(d:Int))
  (ba:a≤18446744065119617025) (bb:b≤18446744065119617025) (bc:c≤18446744065119617025) (bd:d≤18446744065119617025)
  (hd1:(d:Int) / 4294967296=(d1:Int)) (bd1:d1≤4294967295) (ht:(b:Int)+(d1:Int)=(t:Int)) (ht0:bits .and .u64 (t:Int) 4294967295=(t0:Int)) (bt0:t0≤4294967295) (ht1:(t:Int) / 4294967296=(t1:Int)) (bt1:t1≤4294967295)
  (hv:(t0:Int)+(c:Int)=(v:Int)) (hv1:(v:Int) / 4294967296=(v1:Int)) (bv1:v1≤4294967295) (w:World) :
  Calls Tryz.prog 113 #[.int .u64 x,.int .u64 y] w fun e w'=>e=.returned (.tuple #[.int .u64 ((a:Int)+(t1:Int)+(v1:Int)),.int .u64 (IntKind.u64.wrap ((x:Int)*(y:Int)))])∧w=w':=by
 have bt:(t:Int)≤18446744073709551615:=by omega
 have bv:(v:Int)≤18446744073709551615:=by omega
 go_enter Tryz.func113,Tryz.ntmps113
 go_wp2
 go_ret2
 exact ⟨rfl,rfl⟩
theorem low32 (n:Nat) (hn:n<18446744073709551616):bits .and .u64 (n:Int) 4294967295=((n % 4294967296:Nat):Int):=by
 rw [show (4294967295:Int)=((4294967295:Nat):Int) by rfl,u64_and_nat n 4294967295 hn (by decide),nat_mask32]
theorem mul64_any (x y:Nat) (hx:x<18446744073709551616) (hy:y<18446744073709551616) (w:World) :
  Calls Tryz.prog 113 #[.int .u64 x,.int .u64 y] w fun e w'=>e=.returned (.tuple #[.int .u64 ((x*y / 18446744073709551616:Nat):Int),.int .u64 ((x*y % 18446744073709551616:Nat):Int)])∧w=w':=by
 obtain ⟨x1,e1⟩:∃ q,q=x / 4294967296:=⟨_,rfl⟩
 obtain ⟨x0,e0⟩:∃ q,q=x % 4294967296:=⟨_,rfl⟩
 obtain ⟨y1,g1⟩:∃ q,q=y / 4294967296:=⟨_,rfl⟩
 obtain ⟨y0,g0⟩:∃ q,q=y % 4294967296:=⟨_,rfl⟩
 have ba:=half_le x1 y1 (by omega) (by omega)
 have bb:=half_le x1 y0 (by omega) (by omega)
 have bc:=half_le x0 y1 (by omega) (by omega)
 have bd:=half_le x0 y0 (by omega) (by omega)
 obtain ⟨a,ea⟩:∃ q,x1*y1=q:=⟨_,rfl⟩
 obtain ⟨b,eb⟩:∃ q,x1*y0=q:=⟨_,rfl⟩
 obtain ⟨c,ec⟩:∃ q,x0*y1=q:=⟨_,rfl⟩
 obtain ⟨d,ed⟩:∃ q,x0*y0=q:=⟨_,rfl⟩
 have hp:=mul_parts x y x1 x0 y1 y0 a b c d (by omega) (by omega) ea eb ec ed
 have h:=mul64_named x y x1 x0 y1 y0 a b c d (d / 4294967296) (b+d / 4294967296) ((b+d / 4294967296) / 4294967296) ((b+d / 4294967296) % 4294967296) ((b+d / 4294967296) % 4294967296+c) (((b+d / 4294967296) % 4294967296+c) / 4294967296)
  (by rw [e0];exact low32 x hx) (by omega) (by rw [g0];exact low32 y hy) (by omega) (by rw [← Int.natCast_mul,ea]) (by rw [← Int.natCast_mul,eb]) (by rw [← Int.natCast_mul,ec]) (by rw [← Int.natCast_mul,ed])
  (by omega) (by omega) (by omega) (by omega) (by omega) (by omega) (by omega) (low32 _ (by omega)) (by omega) (by omega) (by omega) (by omega) (by omega) (by omega) w
 have e:(a:Int)+(((b+d / 4294967296) / 4294967296:Nat):Int)+((((b+d / 4294967296) % 4294967296+c) / 4294967296:Nat):Int)=((x*y / 18446744073709551616:Nat):Int):=by rw [hp];omega
 rw [e,← Int.natCast_mul,IntKind.wrap_u64,← show ((x*y % 18446744073709551616:Nat):Int)=((x*y:Nat):Int) % 18446744073709551616 by rw [Int.natCast_emod];rfl] at h
 exact h
theorem mul64_low (x y p:Nat) (hx:x<18446744073709551616) (hy:y<18446744073709551616) (ep:p=x*y) (hp:p<18446744073709551616) (w:World) :
  Calls Tryz.prog 113 #[.int .u64 x,.int .u64 y] w fun e w'=>e=.returned (.tuple #[.int .u64 0,.int .u64 p])∧w=w':=by
 have h:=mul64_any x y hx hy w
 rw [← ep,Nat.div_eq_of_lt hp,Nat.mod_eq_of_lt hp] at h
 exact h
theorem mul64_high (x y:Nat) (hx:x<18446744073709551616) (hy:y<18446744073709551616) (hp:18446744073709551616≤x*y):∃ u v:Nat,u≠0∧∀ w:World,
  Calls Tryz.prog 113 #[.int .u64 x,.int .u64 y] w fun e w'=>e=.returned (.tuple #[.int .u64 u,.int .u64 v])∧w=w' :=
 ⟨_,_,by omega,mul64_any x y hx hy⟩
theorem mul_low (x y p:Nat) (hx:x<18446744073709551616) (hy:y<18446744073709551616) (ep:p=x*y) (hp:p<18446744073709551616) (w:World) :
  Calls Tryz.prog 87 #[.int .u64 x,.int .u64 y] w fun e w'=>e=.returned (.tuple #[.int .u64 p,.bool true])∧w=w':=by
 have HP:=Lib.hid ep
 clear ep
 go_enter Tryz.func87,Tryz.ntmps87
 go_wp2_with (first|(go_at_call 113;refine (mul64_low x y p hx hy HP.out hp _).mono ?_;rintro e w' ⟨rfl,rfl⟩))
 go_ret2
 exact ⟨rfl,rfl⟩
theorem mul_high (x y:Nat) (hx:x<18446744073709551616) (hy:y<18446744073709551616) (hp:18446744073709551616≤x*y) (w:World) :
  Calls Tryz.prog 87 #[.int .u64 x,.int .u64 y] w fun e w'=>e=.returned (.tuple #[.int .u64 0,.bool false])∧w=w':=by
 obtain ⟨u,v,hu,HM⟩:=mul64_high x y hx hy hp
 have hu':((u:Int) != 0)=true:=by rw [bne_iff_ne];omega
 clear hp hu
 go_enter Tryz.func87,Tryz.ntmps87
 go_wp2_with (first|(go_at_call 113;refine (HM _).mono ?_;rintro e w' ⟨rfl,rfl⟩))
 go_ret2
 exact ⟨rfl,rfl⟩
theorem rmul_zero (y:Nat) (hy:y<18446744073709551616) (w:World) :
  Calls Tryz.prog 50 #[.int .u64 0,.int .u64 y] w fun e w'=>e=.returned (.tuple #[.int .u64 0,.bool true])∧w=w':=by
 go_enter Tryz.func50,Tryz.ntmps50
 go_wp2
 go_ret2
 exact ⟨ret_pair (by omega),rfl⟩
theorem rmul_low (x y p:Nat) (hx:x<18446744073709551616) (hy:y<18446744073709551616) (ep:p=x*y) (hp:p<18446744073709551616) (w:World) :
  Calls Tryz.prog 50 #[.int .u64 x,.int .u64 y] w fun e w'=>e=.returned (.tuple #[.int .u64 p,.bool true])∧w=w':=by
 rcases Nat.eq_zero_or_pos x with h0|h0
 ·subst h0
  rw [Nat.zero_mul] at ep
  subst ep
  exact rmul_zero y hy w
 ·have hq:y≤18446744073709551615 / x:=(Nat.le_div_iff_mul_le h0).mpr (by rw [Nat.mul_comm,← ep];omega)
  have hq':¬ (18446744073709551615 / (x:Int)<(y:Int)):=by
   have e:(18446744073709551615:Int) / (x:Int)=((18446744073709551615 / x:Nat):Int):=by rw [Int.natCast_ediv];rfl
   rw [e];omega
  have he:(x:Int)*(y:Int)=(p:Int):=by rw [ep,Int.natCast_mul]
  have h0':((x:Int) != 0)=true:=by rw [bne_iff_ne];omega
  have h1:1≤(x:Int):=by omega
  clear hq ep
  go_enter Tryz.func50,Tryz.ntmps50
  go_wp2
  go_ret2
  exact ⟨rfl,rfl⟩
theorem rmul_high (x y:Nat) (hx:x<18446744073709551616) (hy:y<18446744073709551616) (hp:18446744073709551616≤x*y) (w:World) :
  Calls Tryz.prog 50 #[.int .u64 x,.int .u64 y] w fun e w'=>e=.returned (.tuple #[.int .u64 0,.bool false])∧w=w':=by
 have h0:1≤x:=by
  rcases Nat.eq_zero_or_pos x with h|h
  ·rw [h,Nat.zero_mul] at hp;omega
  ·exact h
 have hq:18446744073709551615 / x<y:=by
  rw [Nat.div_lt_iff_lt_mul h0,Nat.mul_comm];omega
 have hq':18446744073709551615 / (x:Int)<(y:Int):=by
  have e:(18446744073709551615:Int) / (x:Int)=((18446744073709551615 / x:Nat):Int):=by rw [Int.natCast_ediv];rfl
  rw [e];omega
 have h0':((x:Int) != 0)=true:=by rw [bne_iff_ne];omega
 have h1:1≤(x:Int):=by omega
 clear hq hp
 go_enter Tryz.func50,Tryz.ntmps50
 go_wp2
 go_ret2
 exact ⟨rfl,rfl⟩
end
section
theorem rneed_small (n:Nat) (h:n<8) (w:World) :
  Calls Tryz.prog 19 #[.int .u64 n] w fun e w'=>e=.returned (.tuple #[.int .u64 48,.bool true])∧w=w':=by
 go_enter Tryz.func19,Tryz.ntmps19
 go_wp2_with (first|(go_at_call 42;refine (radd_low 8 40 (by decide) _).mono ?_;rintro e w' ⟨rfl,rfl⟩)|(go_at_call 43;refine (rup_pow_low 48 4 16 (by decide) (by decide) (by decide) _).mono ?_;rintro e w' ⟨rfl,rfl⟩))
 go_ret2
 exact ⟨rfl,rfl⟩
theorem rneed_low (n:Nat) (h8:8≤n) (h:n+55<18446744073709551616) (w:World) :
  Calls Tryz.prog 19 #[.int .u64 n] w fun e w'=>e=.returned (.tuple #[.int .u64 (((n+55) / 16*16:Nat):Int),.bool true])∧w=w':=by
 go_enter Tryz.func19,Tryz.ntmps19
 go_wp2_with (first|(go_at_call 42;refine (radd_low n 40 (by omega) _).mono ?_;rintro e w' ⟨rfl,rfl⟩)|(go_at_call 43;refine (rup_pow_low (n+40) 4 16 (by decide) (by decide) (by omega) _).mono ?_;rintro e w' ⟨rfl,rfl⟩))
 go_ret2
 exact ⟨ret_pair (by omega),rfl⟩
theorem rneed_high (n:Nat) (hn:n<18446744073709551616) (h:18446744073709551616≤n+55) (w:World) :
  Calls Tryz.prog 19 #[.int .u64 n] w fun e w'=>e=.returned (.tuple #[.int .u64 0,.bool false])∧w=w':=by
 rcases Nat.lt_or_ge (n+40) 18446744073709551616 with h4|h4
 ·go_enter Tryz.func19,Tryz.ntmps19
  go_wp2_with (first|(go_at_call 42;refine (radd_low n 40 (by omega) _).mono ?_;rintro e w' ⟨rfl,rfl⟩)|(go_at_call 43;refine (rup_pow_high (n+40) 4 16 (by omega) (by decide) (by decide) (by omega) _).mono ?_;rintro e w' ⟨rfl,rfl⟩))
  go_ret2
  exact ⟨rfl,rfl⟩
 ·go_enter Tryz.func19,Tryz.ntmps19
  go_wp2_with (first|(go_at_call 42;refine (radd_high n 40 (by omega) (by decide) (by omega) _).mono ?_;rintro e w' ⟨rfl,rfl⟩))
  go_ret2
  exact ⟨rfl,rfl⟩
theorem Ycw (n:Nat) (h:n+55<18446744073709551616) (w:World) :
  Calls Tryz.prog 19 #[.int .u64 n] w fun e w'=>e=.returned (.tuple #[.int .u64 (Yat n:Nat),.bool true])∧w=w':=by
 unfold Yat
 by_cases h8:n<8
 ·rw [if_pos h8];exact rneed_small n h8 w
 ·rw [if_neg h8];exact rneed_low n (by omega) h w
def hstep (h:Int) (b:UInt8):Int:=IntKind.u64.wrap (bits .xor .u64 h (IntKind.u64.wrap b.toNat)*1099511628211)
def hashTo (s:ByteArray) (k:Nat):Int:=(s.data.toList.take k).foldl hstep 14695981039346656037
end
section
def nm (s:ByteArray):List UInt8:=UInt8.ofNat s.size::s.data.toList
theorem nm_len (s:ByteArray):(nm s).length=s.size+1:=by simp [nm]
def loOf (s:ByteArray) (m:Nat):Nat:=leOf (((nm s).take m).take 8)
def hiOf (s:ByteArray) (m:Nat):Nat:=leOf (((nm s).take m).drop 8)
theorem nm_snoc (s:ByteArray) (k:Nat) (h:k<s.size):(nm s).take (k+2)=(nm s).take (k+1)++[s[k]]:=by
 rw [List.take_succ_eq_append_getElem (by rw [nm_len];omega)]
 congr 1
theorem take_len (s:ByteArray) (m:Nat) (h:m≤s.size+1):((nm s).take m).length=m:=by
 rw [List.length_take,nm_len];omega
theorem lo_step (s:ByteArray) (k:Nat) (h:k<s.size) (h8:k+1<8):loOf s (k+2)=loOf s (k+1)+s[k].toNat*256 ^ (k+1):=by
 unfold loOf
 rw [List.take_of_length_le (i:=8) (by rw [take_len s _ (by omega)];omega),List.take_of_length_le (i:=8) (by rw [take_len s _ (by omega)];omega),nm_snoc s k h,leOf_snoc,take_len s _ (by omega)]
theorem hi_none (s:ByteArray) (m:Nat) (h:m≤8):hiOf s m=0:=by
 unfold hiOf
 rw [List.drop_of_length_le (by rw [List.length_take];omega)]
 rfl
theorem lo_stays (s:ByteArray) (m:Nat) (h8:8≤m):loOf s (m+1)=loOf s m:=by
 unfold loOf
 rw [List.take_take,List.take_take]
 congr 2
 omega
theorem hi_step (s:ByteArray) (k:Nat) (h:k<s.size) (h8:8≤k+1):hiOf s (k+2)=hiOf s (k+1)+s[k].toNat*256 ^ (k - 7):=by
 unfold hiOf
 rw [nm_snoc s k h,List.drop_append_of_le_length (by rw [take_len s _ (by omega)];omega),leOf_snoc,List.length_drop,take_len s _ (by omega)]
 congr 3
theorem lo_lt (s:ByteArray) (m:Nat) (h:m≤s.size+1) (h8:m≤8):loOf s m<256 ^ m:=by
 have:=leOf_lt (((nm s).take m).take 8)
 rw [List.length_take,take_len s _ h,Nat.min_eq_right h8] at this
 exact this
theorem hi_lt (s:ByteArray) (m:Nat) (h:m≤s.size+1):hiOf s m<256 ^ (m - 8):=by
 have:=leOf_lt (((nm s).take m).drop 8)
 rw [List.length_drop,take_len s _ h] at this
 exact this
theorem lo_first (s:ByteArray) (h:s.size<256):loOf s 1=s.size:=by
 simp [loOf,nm,leOf]
 omega
theorem set_same {w:World} {a:Addr} {v u:Value} (h:w.cell? a=some u):(w.setCell a v).drew.cell? a=some v:=by
 rw [World.cell?_drew];exact World.cell?_setCell_same _ _ _ h
theorem Yb6 {w:World} {a b:Addr} {v:Value} {x:Option Value} (hne:a≠b) (h:w.cell? b=x):(w.setCell a v).drew.cell? b=x:=by
 rw [World.cell?_drew,World.cell?_setCell_other _ _ _ _ hne];exact h
structure Yem (w:World) (s:ByteArray) (k:Nat) (wr:World):Prop where
 lo:wr.cell? ⟨w.heap.size+1,0,none⟩=some (.int .u64 (loOf s (k+1):Nat))
 hi:wr.cell? ⟨w.heap.size+1,1,none⟩=some (.int .u64 (hiOf s (k+1):Nat))
 flo:wr.frozen? ⟨w.heap.size+1,0,none⟩=false
 fhi:wr.frozen? ⟨w.heap.size+1,1,none⟩=false
 r0:wr.cell? ⟨w.heap.size,0,none⟩=some (.int .u64 0)
 r1:wr.cell? ⟨w.heap.size,1,none⟩=some (.int .u64 0)
 g0:wr.frozen? ⟨w.heap.size,0,none⟩=false
 g1:wr.frozen? ⟨w.heap.size,1,none⟩=false
 below:Below w.heap.size w wr
theorem Yem.low {w wr:World} {s:ByteArray} {k:Nat} (R:Yem w s k wr) (h:k<s.size) (h8:k+1<8) :
  Yem w s (k+1) (wr.setCell ⟨w.heap.size+1,0,none⟩ (.int .u64 ((loOf s (k+1)+s[k].toNat*256 ^ (k+1):Nat):Int))).drew where
 lo:=by rw [lo_step s k h h8];exact set_same R.lo
 hi:=Yb6 (by simp) (by rw [R.hi,hi_none s _ (by omega),hi_none s _ (by omega)])
 flo:=by rw [World.frozen?_drew,World.frozen?_setCell];exact R.flo
 fhi:=by rw [World.frozen?_drew,World.frozen?_setCell];exact R.fhi
 r0:=Yb6 (by simp) R.r0
 r1:=Yb6 (by simp) R.r1
 g0:=by rw [World.frozen?_drew,World.frozen?_setCell];exact R.g0
 g1:=by rw [World.frozen?_drew,World.frozen?_setCell];exact R.g1
 below:=(R.below.setCell (by simp) _).drew
theorem Yem.high {w wr:World} {s:ByteArray} {k:Nat} (R:Yem w s k wr) (h:k<s.size) (h8:8≤k+1) :
  Yem w s (k+1) (wr.setCell ⟨w.heap.size+1,1,none⟩ (.int .u64 ((hiOf s (k+1)+s[k].toNat*256 ^ (k - 7):Nat):Int))).drew where
 hi:=by rw [hi_step s k h h8];exact set_same R.hi
 lo:=Yb6 (by simp) (by rw [R.lo,lo_stays s (k+1) h8])
 flo:=by rw [World.frozen?_drew,World.frozen?_setCell];exact R.flo
 fhi:=by rw [World.frozen?_drew,World.frozen?_setCell];exact R.fhi
 r0:=Yb6 (by simp) R.r0
 r1:=Yb6 (by simp) R.r1
 g0:=by rw [World.frozen?_drew,World.frozen?_setCell];exact R.g0
 g1:=by rw [World.frozen?_drew,World.frozen?_setCell];exact R.g1
 below:=(R.below.setCell (by simp) _).drew
theorem Yem.first (w:World) (s:ByteArray) (h:s.size<256):Yem w s 0 ((w.alloc (.cells #[.int .u64 0,.int .u64 0] 124)).alloc (.cells #[.int .u64 s.size,.int .u64 0] 124)).drew where
 lo:=by rw [lo_first s h];go_cell
 hi:=by rw [hi_none s _ (by omega)];go_cell
 flo:=by simp
 fhi:=by simp
 r0:=by go_cell
 r1:=by go_cell
 g0:=by simp
 g1:=by simp
 below:=(((Below.refl _ _).alloc (Nat.le_refl _) _).alloc (by simp) _).drew
end
section
theorem lay_low_at (i:Int) (k b x:Nat) (ei:i=k) (hi:k<8) (hb:b<256) (hx:x<256 ^ k) (B:Nat) (w:World)
  (h0:w.cell? ⟨B,0,none⟩=some (.int .u64 x)) (hf:w.frozen? ⟨B,0,none⟩=false) :
  Calls Tryz.prog 139 #[.int .i64 i,.int .u8 b,.pointer (some ⟨B,0,none⟩)] w fun e w'=>e=.returned (.tuple #[])∧(w.setCell ⟨B,0,none⟩ (.int .u64 ((x+b*256 ^ k:Nat):Int))).drew=w':=by
 subst ei;exact lay_low k b x hi hb hx B w h0 hf
theorem lay_high_at (i:Int) (k j b x:Nat) (ei:i=k) (hi:j<8) (ej:k=8+j) (hb:b<256) (hx:x<256 ^ j) (B:Nat) (w:World)
  (h0:w.cell? ⟨B,1,none⟩=some (.int .u64 x)) (hf:w.frozen? ⟨B,1,none⟩=false) :
  Calls Tryz.prog 139 #[.int .i64 i,.int .u8 b,.pointer (some ⟨B,0,none⟩)] w fun e w'=>e=.returned (.tuple #[])∧(w.setCell ⟨B,1,none⟩ (.int .u64 ((x+b*256 ^ j:Nat):Int))).drew=w':=by
 subst ei;exact lay_high k j b x hi ej hb hx B w h0 hf
set_option maxHeartbeats 400000 in
theorem pack_any (s:ByteArray) (h1:1≤s.size) (h2:s.size≤15) (w:World) :
  Calls Tryz.prog 117 #[.string s] w fun e w'=>e=.returned (.tuple #[.agg #[.int .u64 (loOf s (s.size+1):Nat),.int .u64 (hiOf s (s.size+1):Nat)],.bool true])∧Below w.heap.size w w':=by
 have c1:((s.size:Int) == 0)=false:=by rw [beq_eq_false_iff_ne];omega
 have c3:¬ s=ByteArray.empty:=by intro h;rw [h] at h1;exact absurd h1 (by decide)
 have c2:¬ (15<(s.size:Int)):=by omega
 have R0:=Yem.first w s (by omega)
 go_enter Tryz.func117,Tryz.ntmps117
 go_wp2_with (first|(go_at_call 139;refine (lay_first s.size (by omega) (w.heap.size+1) _ (by go_cell) (by simp)).mono ?_;rintro e w' ⟨rfl,rfl⟩))
 go_loopw [24] (fun i wr=>∃ k:Nat,k≤s.size∧i=.int .i64 k∧Yem w s k wr) (fun i _=>s.size - (intOf i).toNat)
 case atStart=>exact ⟨0,Nat.zero_le _,rfl,R0⟩
 case round =>
  obtain ⟨k,hk,rfl,R⟩:=hrel
  clear R0
  by_cases hlt:k<s.size
  ·have hb:=s[k].toNat_lt
   rcases Nat.lt_or_ge (k+1) 8 with h8|h8
   ·go_wp2_with (first|(go_at_call 139;refine (lay_low_at _ (k+1) _ (loOf s (k+1)) (by omega) h8 hb (lo_lt s (k+1) (by omega) (by omega)) (w.heap.size+1) _ R.lo R.flo).mono ?_;rintro e w' ⟨rfl,rfl⟩))
    go_roundw
    case rel=>exact ⟨k+1,by omega,by go_num,R.low hlt h8⟩
    case measure=>simp [intOf];omega
   ·go_wp2_with (first|(go_at_call 139;refine (lay_high_at _ (k+1) (k - 7) _ (hiOf s (k+1)) (by omega) (by omega) (by omega) hb (hi_lt s (k+1) (by omega)) (w.heap.size+1) _ R.hi R.fhi).mono ?_;rintro e w' ⟨rfl,rfl⟩))
    go_roundw
    case rel=>exact ⟨k+1,by omega,by go_num,R.high hlt h8⟩
    case measure=>simp [intOf];omega
  ·obtain rfl:k=s.size:=by omega
   have q0:=R.lo
   have q1:=R.hi
   have q2:=R.r0
   have q3:=R.r1
   have q4:=R.g0
   have q5:=R.g1
   go_wp2
   exact bodyPost_ret (v:=.tuple #[.agg #[.int .u64 (loOf s (s.size+1):Nat),.int .u64 (hiOf s (s.size+1):Nat)],.bool true]) (by simp [results,Tryz.results117,go_sem,q2,q3]) rfl ⟨rfl,(R.below.setCell (by simp) _).setCell (by simp) _⟩
theorem pack_not (s:ByteArray) (h:s.size=0∨15<s.size) (hm:s.size≤9223372036854775807) (w:World) :
  Calls Tryz.prog 117 #[.string s] w fun e w'=>e=.returned (.tuple #[.agg #[.int .u64 0,.int .u64 0],.bool false])∧Below w.heap.size w w':=by
 have hb:Below w.heap.size w ((w.alloc (.cells #[.int .u64 0,.int .u64 0] 124)).alloc (.cells #[.int .u64 0,.int .u64 0] 124)):=((Below.refl _ _).alloc (Nat.le_refl _) _).alloc (by simp) _
 rcases h with h|h
 ·obtain rfl:s=ByteArray.empty:=by
   cases s with
   | mk d=>have:d=#[]:=Array.eq_empty_of_size_eq_zero h;rw [this];rfl
  go_enter Tryz.func117,Tryz.ntmps117
  go_wp2
  exact bodyPost_ret (v:=.tuple #[.agg #[.int .u64 0,.int .u64 0],.bool false]) (by simp [results,Tryz.results117,go_sem]) rfl ⟨rfl,hb⟩
 ·have c1:((s.size:Int) == 0)=false:=by rw [beq_eq_false_iff_ne];omega
  have c3:¬ s=ByteArray.empty:=by intro h1;rw [h1] at h;exact absurd h (by decide)
  have c2:15<(s.size:Int):=by omega
  go_enter Tryz.func117,Tryz.ntmps117
  go_wp2
  exact bodyPost_ret (v:=.tuple #[.agg #[.int .u64 0,.int .u64 0],.bool false]) (by simp [results,Tryz.results117,go_sem]) rfl ⟨rfl,hb⟩
end
section
theorem info_u8:(Tryz.prog.info? 5).map (fun i=>(i.zero,i.size,i.bytes))=some (some (.int .u8 0),1,1):=by kernel_rfl
def loS (s:ByteArray):Nat:=loOf s (s.size+1)
def hiS (s:ByteArray):Nat:=hiOf s (s.size+1)
theorem nm_all (s:ByteArray):(nm s).take (s.size+1)=nm s:=List.take_of_length_le (by rw [nm_len];exact Nat.le_refl _)
theorem pack_yes (s:ByteArray) (h1:1≤s.size) (h2:s.size≤15) (w:World) :
  Calls Tryz.prog 117 #[.string s] w fun e w'=>e=.returned (.tuple #[.agg #[.int .u64 (loS s:Nat),.int .u64 (hiS s:Nat)],.bool true])∧Below w.heap.size w w':=pack_any s h1 h2 w
end
section
def Yel (s:ByteArray):List Value:=s.data.toList.map fun b=>.int .u8 (b.toNat:Int)
theorem bytes_len (s:ByteArray):(Yel s).length=s.size:=by simp [Yel]
theorem row_first (s:ByteArray) (c j:Nat) (u:Value) (h:(Yel s)[j]?=some u):(bytesRow s c)[j]?=some u:=by
 have hj:j<s.size:=by
  rcases Nat.lt_or_ge j s.size with h'|h'
  ·exact h'
  ·rw [List.getElem?_eq_none (by rw [bytes_len];exact h')] at h;exact absurd h (by simp)
 have hj':j<s.data.size:=hj
 unfold bytesRow
 rw [Array.getElem?_append_left (by simpa using hj')]
 simpa [Yel] using h
theorem nm_cells (s:ByteArray) (h:s.size<256) (j:Nat) (hj:j<s.size+1):(.int .u8 (s.size:Int)::Yel s)[j]?=some (Value.int .u8 (((nm s)[j]?.getD 0).toNat:Nat)):=by
 rcases j with _|j
 ·simp [nm];omega
 ·have hj':j<s.data.toList.length:=by simp;exact Nat.lt_of_succ_lt_succ hj
  simp [nm,Yel,List.getElem?_eq_getElem hj']
theorem own_first (w:World) (n:Int) (O A:Obj):(((w.alloc O).alloc (.cells #[.int .u8 n] 5)).alloc A).drew.ownsRow (w.heap.size+1) 5 1 (.slice (some ⟨w.heap.size+1,0,none⟩) 1 1) 1 [.int .u8 n]:=by
 have h:((w.alloc O).alloc (.cells #[.int .u8 n] 5)).ownsRow (w.heap.size+1) 5 1 (.slice (some ⟨w.heap.size+1,0,none⟩) 1 1) 1 [.int .u8 n]:=by
  refine ⟨rfl,.inr ⟨w.heap.size+1,1,#[.int .u8 n],rfl,Nat.le_refl _,?_,Nat.le_refl _,by unfold maxLen;omega,rfl,rfl⟩⟩
  have:=Go.heap_alloc_new (w.alloc O) (.cells #[.int .u8 n] 5)
  rw [World.size_alloc] at this
  exact this
 exact h.alloc A
theorem cells_second (w:World) (s:ByteArray) (c:Nat) (O A:Obj) (t:Nat) (fr:Nat × Nat) (j:Nat) (u:Value) (h:(Yel s)[j]?=some u) :
  (((w.alloc O).alloc A).alloc (.cells (bytesRow s c) t fr)).cell? ⟨w.heap.size+2,j,none⟩=some u:=by
 have hm:=World.cell?_alloc_mark ((w.alloc O).alloc A) (bytesRow s c) t fr j
 rw [World.size_alloc,World.size_alloc] at hm
 rw [hm]
 exact row_first s c j u h
theorem one_cells (s:ByteArray):∀ u∈Yel s,u.oneCell'=true:=by
 intro u hu
 obtain ⟨b,_,rfl⟩:=List.mem_map.mp hu
 rfl
structure RPRel (w w1:World) (s:ByteArray) (g r:Nat) (wr:World):Prop where
 lo:wr.cell? ⟨w1.heap.size,0,none⟩=some (.int .u64 (leOf (((nm s).take 8).drop r):Nat))
 hi:wr.cell? ⟨w1.heap.size,1,none⟩=some (.int .u64 (leOf ((nm s).drop (max r 8)):Nat))
 flo:wr.frozen? ⟨w1.heap.size,0,none⟩=false
 fhi:wr.frozen? ⟨w1.heap.size,1,none⟩=false
 r0:wr.cell? ⟨w.heap.size,0,none⟩=some (.int .u64 0)
 r1:wr.cell? ⟨w.heap.size,1,none⟩=some (.int .u64 0)
 g0:wr.frozen? ⟨w.heap.size,0,none⟩=false
 g1:wr.frozen? ⟨w.heap.size,1,none⟩=false
 bs:∀ j,j<s.size+1→wr.cell? ⟨g,j,none⟩=some (.int .u8 (((nm s)[j]?.getD 0).toNat:Nat))
 below:Below w.heap.size w wr
theorem le_at (s:ByteArray) (r:Nat) (h8:r<8) (hr:r<s.size+1):leOf (((nm s).take 8).drop r)=256*leOf (((nm s).take 8).drop (r+1))+((nm s)[r]?.getD 0).toNat:=by
 have hl:r<((nm s).take 8).length:=by rw [List.length_take,nm_len];omega
 have hn:r<(nm s).length:=by rw [nm_len];exact hr
 rw [List.drop_eq_getElem_cons hl,List.getElem_take,List.getElem?_eq_getElem hn]
 simp only [leOf,Option.getD_some]
 omega
theorem le_at_high (s:ByteArray) (r:Nat) (hr:r<s.size+1):leOf ((nm s).drop r)=256*leOf ((nm s).drop (r+1))+((nm s)[r]?.getD 0).toNat:=by
 have hn:r<(nm s).length:=by rw [nm_len];exact hr
 rw [List.drop_eq_getElem_cons hn,List.getElem?_eq_getElem hn]
 simp only [leOf,Option.getD_some]
 omega
theorem low_empty (s:ByteArray) (r:Nat) (h:8≤r):leOf (((nm s).take 8).drop r)=0:=by
 rw [List.drop_of_length_le (by rw [List.length_take];omega)];rfl
theorem RPRel.low {w w1 wr:World} {s:ByteArray} {g r:Nat} (R:RPRel w w1 s g (r+1) wr) (hw:w.heap.size<w1.heap.size) (hg:g<w1.heap.size) (h8:r<8) (hr:r<s.size+1) (v:Nat) (hv:v=leOf (((nm s).take 8).drop r)) :
  RPRel w w1 s g r (wr.setCell ⟨w1.heap.size,0,none⟩ (.int .u64 v)).drew where
 lo:=by rw [← hv];exact set_same R.lo
 hi:=Yb6 (by simp) (by rw [R.hi,Nat.max_eq_right (by omega),Nat.max_eq_right (by omega)])
 flo:=by rw [World.frozen?_drew,World.frozen?_setCell];exact R.flo
 fhi:=by rw [World.frozen?_drew,World.frozen?_setCell];exact R.fhi
 r0:=Yb6 (by simp <;> omega) R.r0
 r1:=Yb6 (by simp) R.r1
 g0:=by rw [World.frozen?_drew,World.frozen?_setCell];exact R.g0
 g1:=by rw [World.frozen?_drew,World.frozen?_setCell];exact R.g1
 bs:=fun j hj=>Yb6 (by simp <;> omega) (R.bs j hj)
 below:=(R.below.setCell (by simp <;> omega) _).drew
theorem RPRel.high {w w1 wr:World} {s:ByteArray} {g r:Nat} (R:RPRel w w1 s g (r+1) wr) (hw:w.heap.size<w1.heap.size) (hg:g<w1.heap.size) (h8:8≤r) (hr:r<s.size+1) (v:Nat) (hv:v=leOf ((nm s).drop r)) :
  RPRel w w1 s g r (wr.setCell ⟨w1.heap.size,1,none⟩ (.int .u64 v)).drew where
 hi:=by rw [Nat.max_eq_left h8,← hv];exact set_same R.hi
 lo:=Yb6 (by simp) (by rw [R.lo,low_empty s _ (by omega),low_empty s _ h8])
 flo:=by rw [World.frozen?_drew,World.frozen?_setCell];exact R.flo
 fhi:=by rw [World.frozen?_drew,World.frozen?_setCell];exact R.fhi
 r0:=Yb6 (by simp) R.r0
 r1:=Yb6 (by simp <;> omega) R.r1
 g0:=by rw [World.frozen?_drew,World.frozen?_setCell];exact R.g0
 g1:=by rw [World.frozen?_drew,World.frozen?_setCell];exact R.g1
 bs:=fun j hj=>Yb6 (by simp <;> omega) (R.bs j hj)
 below:=(R.below.setCell (by simp <;> omega) _).drew
end
section
theorem le_nil:leOf []=0:=rfl
theorem RPRel.first {w wa:World} {s:ByteArray} {g cp:Nat} (hs1:1≤s.size) (hs:s.size≤15) (hown:wa.ownsRow (w.heap.size+1) 5 1 (.slice (some ⟨g,0,none⟩) (1+s.size) cp) (1+s.size) (.int .u8 (s.size:Int)::Yel s))
  (hb:Below (w.heap.size+1) (w.alloc (.cells #[.int .u64 0,.int .u64 0] 124)) wa) :
  RPRel w wa s g (s.size+1) (wa.alloc (.cells #[.int .u64 0,.int .u64 0] 124)):=by
 have hsz:=hb.size
 rw [World.size_alloc] at hsz
 have hlen:=nm_len s
 have hg:=hown.lt g rfl
 have hb0:Below w.heap.size w wa:=((Below.refl w.heap.size w).alloc (Nat.le_refl _) _).trans (hb.mono (by omega))
 have hcell:∀ j,wa.cell? ⟨w.heap.size,j,none⟩=(w.alloc (.cells #[.int .u64 0,.int .u64 0] 124)).cell? ⟨w.heap.size,j,none⟩:=fun j=>hb.cell (p:=⟨w.heap.size,j,none⟩) (by simp)
 have hfroz:∀ j,wa.frozen? ⟨w.heap.size,j,none⟩=(w.alloc (.cells #[.int .u64 0,.int .u64 0] 124)).frozen? ⟨w.heap.size,j,none⟩:=fun j=>hb.frozen (p:=⟨w.heap.size,j,none⟩) (by simp)
 have old:∀ b j,b<wa.heap.size→(wa.alloc (.cells #[.int .u64 0,.int .u64 0] 124)).cell? ⟨b,j,none⟩=wa.cell? ⟨b,j,none⟩:=fun b j h=>World.cell?_alloc_old _ _ _ (Nat.ne_of_lt h)
 have oldf:∀ b j,b<wa.heap.size→(wa.alloc (.cells #[.int .u64 0,.int .u64 0] 124)).frozen? ⟨b,j,none⟩=wa.frozen? ⟨b,j,none⟩:=fun b j h=>World.frozen?_alloc_old _ _ _ (Nat.ne_of_lt h)
 exact {
  lo:=by rw [List.drop_of_length_le (by rw [List.length_take,hlen];omega),le_nil];go_cell
  hi:=by rw [List.drop_of_length_le (by rw [hlen];omega),le_nil];go_cell
  flo:=by simp
  fhi:=by simp
  r0:=by rw [old _ _ (by omega),hcell];go_cell
  r1:=by rw [old _ _ (by omega),hcell];go_cell
  g0:=by rw [oldf _ _ (by omega),hfroz];simp
  g1:=by rw [oldf _ _ (by omega),hfroz];simp
  bs:=fun j hj=>by
   have h:=hown.cells (g:=g) rfl j _ (nm_cells s (by omega) j hj)
   have hadd:(⟨g,0,none⟩:Addr).add j=⟨g,j,none⟩:=by unfold Addr.add;split <;> simp_all
   rw [hadd] at h
   rw [old _ _ hg.2]
   exact h
  below:=hb0.alloc (by omega) _ }
theorem own_shape {wa:World} {base n:Nat} {v:Value} {xs:List Value} (h:wa.ownsRow base 5 1 v n xs) (hn:1≤n):∃ g cp,v=.slice (some ⟨g,0,none⟩) n cp∧n≤cp∧cp≤maxLen:=by
 rcases h.2 with ⟨_,h0⟩|⟨g,cp,cur,hv,_,_,hc,hm,_⟩
 ·omega
 ·exact ⟨g,cp,hv,hc,hm⟩
set_option maxHeartbeats 1000000 in
theorem rpack_any (s:ByteArray) (h1:1≤s.size) (h2:s.size≤15) (w:World) :
  Calls Tryz.prog 80 #[.string s] w fun e w'=>e=.returned (.tuple #[.agg #[.int .u64 (loS s:Nat),.int .u64 (hiS s:Nat)],.bool true])∧Below w.heap.size w w':=by
 have c1:¬ ((s.size:Int)<1):=by omega
 have c3:¬ s=ByteArray.empty:=by intro h;rw [h] at h1;exact absurd h1 (by decide)
 have c2:¬ (15<(s.size:Int)):=by omega
 obtain ⟨cap,hcap⟩:∃ cap:World→Nat,∀ w,grownCap w s.size 0 5=cap w:=⟨_,fun _=>rfl⟩
 have hcv:=fun w=>run_bytes_of_string (P:=Tryz.prog) w 9 157 5 s Tryz.underlying9 Tryz.underlying157 Tryz.underlying5
 simp only [hcap] at hcv
 clear hcap
 obtain ⟨i0,hi,hz0,hz1,hz2⟩:=info_parts info_u8
 have HI:=Lib.hid (And.intro hi (And.intro hz0 (And.intro hz1 hz2)))
 clear hi hz0 hz1 hz2
 go_enter Tryz.func80,Tryz.ntmps80
 go_wp2_with (at_builtin;go_must (refine wpList_append_own _ rfl _ _ 157 rfl (w.heap.size+1) 5 i0 (.int .u8 0) 1 1 Tryz.underlying157 HI.out.1 HI.out.2.1 HI.out.2.2.1 HI.out.2.2.2 rfl (by decide) _ 1 [.int .u8 s.size] rfl ?own ⟨w.heap.size+2,0,none⟩ s.size _ (Yel s) rfl ?hl ?hnews ?hone ?h63 ?hbytes ?hbase ?_))
 case own=>exact own_first w _ _ _
 case hl=>exact bytes_len s
 case hnews=>exact fun j u h=>cells_second w s _ _ _ _ _ j u h
 case hone=>exact one_cells s
 case h63=>unfold maxLen;omega
 case hbytes=>omega
 intro v' wa hown hgrow _
 clear hcv HI
 have hb1:Below (w.heap.size+1) (w.alloc (.cells #[.int .u64 0,.int .u64 0] 124)) wa :=
  ((((Below.refl _ _).alloc (by simp) _).alloc (by simp) _).drew).grown hgrow (by simp) (fun k hk=>by simp [Value.ownBlock] at hk;omega)
 obtain ⟨g,cp,hv,hcp,hcm⟩:=own_shape hown (by omega)
 rw [hv]
 rw [hv] at hown
 have R0:=RPRel.first h1 h2 hown hb1
 have hg:=hown.lt g rfl
 clear hgrow hb1
 unfold maxLen at hcm
 go_wp2
 go_loopw [6] (fun i wr=>∃ r:Nat,r≤s.size+1∧i=.int .i64 ((r:Int) - 1)∧RPRel w wa s g r wr) (fun i _=>(intOf i+1).toNat)
 case atStart=>exact ⟨s.size+1,Nat.le_refl _,congrArg (Value.int .i64) (by omega),R0⟩
 case round =>
  obtain ⟨r',hr',rfl,R⟩:=hrel
  clear R0 hown
  rcases r' with _|r
  ·rw [show (((0:Nat):Int) - 1) = -1 by rfl]
   have q0:=R.lo
   have q1:=R.hi
   rw [List.drop_zero,show leOf ((nm s).take 8)=loS s by unfold loS loOf;rw [nm_all]] at q0
   rw [Nat.max_eq_right (by omega),show leOf ((nm s).drop 8)=hiS s by unfold hiS hiOf;rw [nm_all]] at q1
   have q2:=R.r0
   have q3:=R.r1
   have q4:=R.g0
   have q5:=R.g1
   go_wp2
   exact bodyPost_ret (v:=.tuple #[.agg #[.int .u64 (loS s:Nat),.int .u64 (hiS s:Nat)],.bool true]) (by simp [results,Tryz.results80,go_sem,q2,q3]) rfl ⟨rfl,(R.below.setCell (by simp) _).setCell (by simp) _⟩
  ·rw [show (((r+1:Nat):Int) - 1)=(r:Int) by omega]
   have hw:w.heap.size<wa.heap.size:=by omega
   have hb:=R.bs r (by omega)
   have hlt:=((nm s)[r]?.getD 0).toNat_lt
   obtain ⟨b,eb⟩:∃ b,((nm s)[r]?.getD 0).toNat=b:=⟨_,rfl⟩
   rw [eb] at hb hlt
   rcases Nat.lt_or_ge r 8 with h8|h8
   ·have hv:=le_at s r h8 (by omega)
    rw [eb] at hv
    have q0:=R.lo
    have q1:=R.flo
    have hlim:=leOf_lt (((nm s).take 8).drop (r+1))
    have hlen:(((nm s).take 8).drop (r+1)).length≤7:=by rw [List.length_drop,List.length_take];omega
    have hpw:(256:Nat) ^ (((nm s).take 8).drop (r+1)).length≤256 ^ 7:=Nat.pow_le_pow_right (by decide) hlen
    rw [show (256:Nat) ^ 7=72057594037927936 by decide] at hpw
    obtain ⟨x,ex⟩:∃ x,leOf (((nm s).take 8).drop (r+1))=x:=⟨_,rfl⟩
    rw [ex] at hv q0 hlim
    have RN:=R.low hw hg.2 h8 (by omega) (256*x+b) hv.symm
    have hxl:x<72057594037927936:=by omega
    have e1:(r:Int) / 8=0:=by omega
    have en:((256*x+b:Nat):Int)=256*(x:Int)+(b:Int):=by omega
    rw [en] at RN
    clear hv hlim hlen hpw ex eb en
    go_wp2
    go_region
    all_goals go_wp2
    all_goals exact ⟨⟨r,by omega,rfl,RN⟩,by simp [intOf]⟩
   ·have hv:=le_at_high s r (by omega)
    rw [eb] at hv
    have q0:=R.hi
    have q1:=R.fhi
    rw [Nat.max_eq_left (by omega)] at q0
    have hlim:=leOf_lt ((nm s).drop (r+1))
    have hlen:((nm s).drop (r+1)).length≤7:=by rw [List.length_drop,nm_len];omega
    have hpw:(256:Nat) ^ ((nm s).drop (r+1)).length≤256 ^ 7:=Nat.pow_le_pow_right (by decide) hlen
    rw [show (256:Nat) ^ 7=72057594037927936 by decide] at hpw
    obtain ⟨x,ex⟩:∃ x,leOf ((nm s).drop (r+1))=x:=⟨_,rfl⟩
    rw [ex] at hv q0 hlim
    have RN:=R.high hw hg.2 h8 (by omega) (256*x+b) hv.symm
    have hxl:x<72057594037927936:=by omega
    have e1:(r:Int) / 8=1:=by omega
    have en:((256*x+b:Nat):Int)=256*(x:Int)+(b:Int):=by omega
    rw [en] at RN
    clear hv hlim hlen hpw ex eb en
    go_wp2
    go_region
    all_goals go_wp2
    all_goals exact ⟨⟨r,by omega,rfl,RN⟩,by simp [intOf]⟩
theorem rpack_not (s:ByteArray) (h:s.size=0∨15<s.size) (hm:s.size≤9223372036854775807) (w:World) :
  Calls Tryz.prog 80 #[.string s] w fun e w'=>e=.returned (.tuple #[.agg #[.int .u64 0,.int .u64 0],.bool false])∧Below w.heap.size w w':=by
 have hb:Below w.heap.size w (w.alloc (.cells #[.int .u64 0,.int .u64 0] 124)):=(Below.refl _ _).alloc (Nat.le_refl _) _
 rcases h with h|h
 ·have c1:(s.size:Int)<1:=by omega
  go_enter Tryz.func80,Tryz.ntmps80
  go_wp2
  exact bodyPost_ret (v:=.tuple #[.agg #[.int .u64 0,.int .u64 0],.bool false]) (by simp [results,Tryz.results80,go_sem]) rfl ⟨rfl,hb⟩
 ·have c1:¬ (s.size:Int)<1:=by omega
  have c2:15<(s.size:Int):=by omega
  go_enter Tryz.func80,Tryz.ntmps80
  go_wp2
  exact bodyPost_ret (v:=.tuple #[.agg #[.int .u64 0,.int .u64 0],.bool false]) (by simp [results,Tryz.results80,go_sem]) rfl ⟨rfl,hb⟩
end
end Go.Proofs.YtfhiljglfhekdaaGreat
