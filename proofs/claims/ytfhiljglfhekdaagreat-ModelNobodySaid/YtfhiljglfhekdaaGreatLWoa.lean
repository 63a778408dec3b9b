/-
  Texts of one layer, one behind the other: memory, contracts of the functions, and what follows of them.
  Conditions: as each theorem says.
-/
import Derived.Test.YtfhiljglfhekdaaGreatProg
import Derived.WalkKit
import Derived.WalkSpells
import Derived.WalkLawsBesides
import Derived.Handy
import Derived.Laws.Externs
import Derived.KernelRfl
import Derived.Laws.BitsAll
import Derived.Lib.Hide
import Derived.LoopTactic
import Derived.Deep.LoopGhost
import Derived.RegionTactic
import Derived.ChangeAlike
import Derived.BigRegion
import Derived.Laws.BitsAllLaws
set_option linter.unusedVariables false
set_option linter.unusedSimpArgs false
namespace Go.Proofs.YtfhiljglfhekdaaGreat
open Go.RowKit
section
theorem ret_int {k:IntKind} {a b:Int} (h:a=b):Ending.returned (.int k a)=.returned (.int k b):=by rw [h]
theorem add64_at (x y:Nat) (w:World) :
  (callFunc 121 #[.int .u64 x,.int .u64 y,.int .u64 0]).run Tryz.prog w =
   .ok (.value (.tuple #[.int .u64 (((x+y) % 18446744073709551616:Nat):Int),.int .u64 (((x+y) / 18446744073709551616:Nat):Int)])) w:=by
 rw [run_callFunc_extern Tryz.func121 (by kernel_rfl) (by kernel_rfl) (by kernel_rfl) (e:=add64Entry) (by kernel_rfl),run_add64 x y 0 (by omega) (by omega) (by omega) (by omega)]
 simp only [Result.andThen]
 congr 5 <;> omega
theorem add64_low (x y:Nat) (h:x+y<18446744073709551616) (w:World) :
  (callFunc 121 #[.int .u64 x,.int .u64 y,.int .u64 0]).run Tryz.prog w =
   .ok (.value (.tuple #[.int .u64 ((x+y:Nat):Int),.int .u64 0])) w:=by
 rw [add64_at,Nat.mod_eq_of_lt h,Nat.div_eq_of_lt h];rfl
theorem add64_high (x y:Nat) (hx:x<18446744073709551616) (hy:y<18446744073709551616) (h:18446744073709551616≤x+y) (w:World) :
  (callFunc 121 #[.int .u64 x,.int .u64 y,.int .u64 0]).run Tryz.prog w =
   .ok (.value (.tuple #[.int .u64 (((x+y) % 18446744073709551616:Nat):Int),.int .u64 1])) w:=by
 rw [add64_at]
 have:(x+y) / 18446744073709551616=1:=by omega
 rw [this];rfl
theorem add_low (x y:Nat) (h:x+y<18446744073709551616) (w:World) :
  Calls Tryz.prog 97 #[.int .u64 x,.int .u64 y] w fun e w'=>e=.returned (.tuple #[.int .u64 ((x+y:Nat):Int),.bool true])∧w=w':=by
 have c64:=add64_low x y h
 go_enter Tryz.func97,Tryz.ntmps97
 go_wp2_with (simp only [c64])
 go_ret2
 exact ⟨rfl,rfl⟩
theorem add_high (x y:Nat) (hx:x<18446744073709551616) (hy:y<18446744073709551616) (h:18446744073709551616≤x+y) (w:World) :
  Calls Tryz.prog 97 #[.int .u64 x,.int .u64 y] w fun e w'=>e=.returned (.tuple #[.int .u64 0,.bool false])∧w=w':=by
 have c64:=add64_high x y hx hy h
 go_enter Tryz.func97,Tryz.ntmps97
 go_wp2_with (simp only [c64])
 go_ret2
 exact ⟨rfl,rfl⟩
theorem words_any (n:Nat) (hn:n<18446744073709551616) (w:World) :
  Calls Tryz.prog 116 #[.int .u64 n] w fun e w'=>e=.returned (.int .u64 (((n+7) / 8:Nat):Int))∧w=w':=by
 by_cases h:(n:Int) % 8=0
 ·go_enter Tryz.func116,Tryz.ntmps116
  go_wp2
  go_ret
  exact ⟨ret_int (by omega),rfl⟩
 ·go_enter Tryz.func116,Tryz.ntmps116
  go_wp2
  go_ret
  exact ⟨ret_int (by omega),rfl⟩
end
section
theorem ret_pair {k:IntKind} {a b:Int} {v:Value} (h:a=b):Ending.returned (.tuple #[.int k a,v])=.returned (.tuple #[.int k b,v]):=by rw [h]
def ones1 (x:Int):Int:=IntKind.u64.wrap (bits .and .u64 (x / 2) 6148914691236517205+bits .and .u64 x 6148914691236517205)
def ones2 (x:Int):Int:=IntKind.u64.wrap (bits .and .u64 (x / 4) 3689348814741910323+bits .and .u64 x 3689348814741910323)
def ones3 (x:Int):Int:=bits .and .u64 (IntKind.u64.wrap (x / 16+x)) 1085102592571150095
def ones4 (x:Int):Int:=IntKind.u64.wrap (x+x / 256)
def ones5 (x:Int):Int:=IntKind.u64.wrap (x+x / 65536)
def ones6 (x:Int):Int:=IntKind.u64.wrap (x+x / 4294967296)
def Yeu (x:Int):Int:=bits .and .i64 (wrap64 (ones6 (ones5 (ones4 (ones3 (ones2 (ones1 x))))))) 127
theorem ones_any (n:Nat) (hn:n<18446744073709551616) (w:World) :
  Calls Tryz.prog 110 #[.int .u64 n] w fun e w'=>e=.returned (.int .i64 (Yeu n))∧w=w':=by
 go_enter Tryz.func110,Tryz.ntmps110
 go_wp2
 go_ret
 refine ⟨ret_int ?_,rfl⟩
 show _=bits .and .i64 (wrap64 (ones6 (ones5 (ones4 (ones3 (ones2 (ones1 n))))))) 127
 simp only [ones6,ones5,ones4,ones3,ones2,ones1]
theorem onesp:∀ k,k<64→Yeu ((2 ^ k:Nat):Int)=1:=by decide +kernel
theorem mask_pow (k x:Nat) (hk:k<64) (hx:x<18446744073709551616):bits .andNot .u64 (x:Int) (((2 ^ k:Nat):Int) - 1)=((x / 2 ^ k*2 ^ k:Nat):Int):=by
 have hp:1≤2 ^ k:=Nat.one_le_two_pow
 have hl:2 ^ k≤2 ^ 63:=Nat.pow_le_pow_right (by decide) (by omega)
 have e:((2 ^ k:Nat):Int) - 1=((2 ^ k - 1:Nat):Int):=by omega
 have e2:18446744073709551615 - (2 ^ k - 1)=18446744073709551616 - 2 ^ k:=by omega
 rw [e,u64_andNot_nat x _ hx (by omega),e2]
 have h:=nat_midmask 64 k x (by omega)
 have e3:(2 ^ 64:Nat)=18446744073709551616:=by decide
 rw [e3,Nat.mod_eq_of_lt hx] at h
 rw [h]
theorem up_low (n a:Nat) (h1:Yeu a=1) (hp:1≤a) (ha:a<18446744073709551616) (h:n+(a - 1)<18446744073709551616) (q:Nat) (hq:bits .andNot .u64 ((n:Int)+((a - 1:Nat):Int)) ((a:Int) - 1)=(q:Int)) (w:World) :
  Calls Tryz.prog 115 #[.int .u64 n,.int .u64 a] w fun e w'=>e=.returned (.tuple #[.int .u64 q,.bool true])∧w=w':=by
 have hb:(Yeu (a:Int) != 1)=false:=by rw [h1];rfl
 have H1:=Lib.hid h1
 clear h1
 have HQ:=Lib.hid hq
 clear hq
 have e1:(a:Int) - 1=((a - 1:Nat):Int):=by omega
 have E1:=Lib.hid e1
 clear e1
 go_enter Tryz.func115,Tryz.ntmps115
 go_wp2_with (first|(go_at_call 110;refine (ones_any a ha _).mono ?_;rintro e w' ⟨rfl,rfl⟩)|(go_at_call 97;rw [E1.out];refine (add_low n (a - 1) h _).mono ?_;rintro e w' ⟨rfl,rfl⟩))
 go_ret2
 exact ⟨ret_pair HQ.out,rfl⟩
theorem up_high (n a:Nat) (hn:n<18446744073709551616) (h1:Yeu a=1) (hp:1≤a) (ha:a<18446744073709551616) (h:18446744073709551616≤n+(a - 1)) (w:World) :
  Calls Tryz.prog 115 #[.int .u64 n,.int .u64 a] w fun e w'=>e=.returned (.tuple #[.int .u64 0,.bool false])∧w=w':=by
 have hb:(Yeu (a:Int) != 1)=false:=by rw [h1];rfl
 have H1:=Lib.hid h1
 clear h1
 have e1:(a:Int) - 1=((a - 1:Nat):Int):=by omega
 have E1:=Lib.hid e1
 clear e1
 go_enter Tryz.func115,Tryz.ntmps115
 go_wp2_with (first|(go_at_call 110;refine (ones_any a ha _).mono ?_;rintro e w' ⟨rfl,rfl⟩)|(go_at_call 97;rw [E1.out];refine (add_high n (a - 1) hn (by omega) h _).mono ?_;rintro e w' ⟨rfl,rfl⟩))
 go_ret2
 exact ⟨rfl,rfl⟩
theorem Ydd (k:Nat) (hk:k<64):1≤2 ^ k∧2 ^ k<18446744073709551616:=by
 have hp:1≤2 ^ k:=Nat.one_le_two_pow
 have hl:2 ^ k≤2 ^ 63:=Nat.pow_le_pow_right (by decide) (by omega)
 exact ⟨hp,by omega⟩
theorem up_pow_low (n k a:Nat) (hk:k<64) (ea:a=2 ^ k) (h:n+(a - 1)<18446744073709551616) (w:World) :
  Calls Tryz.prog 115 #[.int .u64 n,.int .u64 a] w fun e w'=>e=.returned (.tuple #[.int .u64 (((n+(a - 1)) / a*a:Nat):Int),.bool true])∧w=w':=by
 have hb:=Ydd k hk
 have hm:=mask_pow k (n+(a - 1)) hk h
 rw [← ea] at hm hb
 have h1:=onesp k hk
 rw [← ea] at h1
 exact up_low n a h1 hb.1 hb.2 h _ (by rw [← hm,Int.natCast_add]) w
theorem up_pow_high (n k a:Nat) (hn:n<18446744073709551616) (hk:k<64) (ea:a=2 ^ k) (h:18446744073709551616≤n+(a - 1)) (w:World) :
  Calls Tryz.prog 115 #[.int .u64 n,.int .u64 a] w fun e w'=>e=.returned (.tuple #[.int .u64 0,.bool false])∧w=w':=by
 have hb:=Ydd k hk
 rw [← ea] at hb
 have h1:=onesp k hk
 rw [← ea] at h1
 exact up_high n a hn h1 hb.1 hb.2 h w
theorem need_small (n:Nat) (h:n<8) (w:World) :
  Calls Tryz.prog 89 #[.int .u64 n] w fun e w'=>e=.returned (.tuple #[.int .u64 48,.bool true])∧w=w':=by
 go_enter Tryz.func89,Tryz.ntmps89
 go_wp2_with (first|(go_at_call 97;refine (add_low 8 40 (by decide) _).mono ?_;rintro e w' ⟨rfl,rfl⟩)|(go_at_call 115;refine (up_pow_low 48 4 16 (by decide) (by decide) (by decide) _).mono ?_;rintro e w' ⟨rfl,rfl⟩))
 go_ret2
 exact ⟨rfl,rfl⟩
theorem need_low (n:Nat) (h8:8≤n) (h:n+55<18446744073709551616) (w:World) :
  Calls Tryz.prog 89 #[.int .u64 n] w fun e w'=>e=.returned (.tuple #[.int .u64 (((n+55) / 16*16:Nat):Int),.bool true])∧w=w':=by
 go_enter Tryz.func89,Tryz.ntmps89
 go_wp2_with (first|(go_at_call 97;refine (add_low n 40 (by omega) _).mono ?_;rintro e w' ⟨rfl,rfl⟩)|(go_at_call 115;refine (up_pow_low (n+40) 4 16 (by decide) (by decide) (by omega) _).mono ?_;rintro e w' ⟨rfl,rfl⟩))
 go_ret2
 exact ⟨ret_pair (by omega),rfl⟩
theorem need_high (n:Nat) (hn:n<18446744073709551616) (h:18446744073709551616≤n+55) (w:World) :
  Calls Tryz.prog 89 #[.int .u64 n] w fun e w'=>e=.returned (.tuple #[.int .u64 0,.bool false])∧w=w':=by
 rcases Nat.lt_or_ge (n+40) 18446744073709551616 with h4|h4
 ·go_enter Tryz.func89,Tryz.ntmps89
  go_wp2_with (first|(go_at_call 97;refine (add_low n 40 (by omega) _).mono ?_;rintro e w' ⟨rfl,rfl⟩)|(go_at_call 115;refine (up_pow_high (n+40) 4 16 (by omega) (by decide) (by decide) (by omega) _).mono ?_;rintro e w' ⟨rfl,rfl⟩))
  go_ret2
  exact ⟨rfl,rfl⟩
 ·go_enter Tryz.func89,Tryz.ntmps89
  go_wp2_with (first|(go_at_call 97;refine (add_high n 40 (by omega) (by decide) (by omega) _).mono ?_;rintro e w' ⟨rfl,rfl⟩))
  go_ret2
  exact ⟨rfl,rfl⟩
def Yat (n:Nat):Nat:=if n<8 then 48 else (n+55) / 16*16
theorem need_fits (n:Nat) (h:n+55<18446744073709551616) (w:World) :
  Calls Tryz.prog 89 #[.int .u64 n] w fun e w'=>e=.returned (.tuple #[.int .u64 (Yat n:Nat),.bool true])∧w=w':=by
 unfold Yat
 by_cases h8:n<8
 ·rw [if_pos h8];exact need_small n h8 w
 ·rw [if_neg h8];exact need_low n (by omega) h w
end
section
theorem ret_boolf {b:Bool} (h:b=false):Ending.returned (.bool b)=.returned (.bool false):=by rw [h]
theorem radd_low (x y:Nat) (h:x+y<18446744073709551616) (w:World) :
  Calls Tryz.prog 42 #[.int .u64 x,.int .u64 y] w fun e w'=>e=.returned (.tuple #[.int .u64 ((x+y:Nat):Int),.bool true])∧w=w':=by
 go_enter Tryz.func42,Tryz.ntmps42
 go_wp2
 go_ret2
 exact ⟨rfl,rfl⟩
theorem radd_high (x y:Nat) (hx:x<18446744073709551616) (hy:y<18446744073709551616) (h:18446744073709551616≤x+y) (w:World) :
  Calls Tryz.prog 42 #[.int .u64 x,.int .u64 y] w fun e w'=>e=.returned (.tuple #[.int .u64 0,.bool false])∧w=w':=by
 go_enter Tryz.func42,Tryz.ntmps42
 go_wp2
 go_ret2
 exact ⟨rfl,rfl⟩
theorem rwords_any (n:Nat) (hn:n<18446744073709551616) (w:World) :
  Calls Tryz.prog 79 #[.int .u64 n] w fun e w'=>e=.returned (.int .u64 (((n+7) / 8:Nat):Int))∧w=w':=by
 by_cases h:(n:Int) % 8=0
 ·go_enter Tryz.func79,Tryz.ntmps79
  go_wp2
  go_ret
  exact ⟨ret_int (by omega),rfl⟩
 ·go_enter Tryz.func79,Tryz.ntmps79
  go_wp2
  go_ret
  exact ⟨ret_int (by omega),rfl⟩
theorem power_yes (k a:Nat) (hk:k<64) (ea:a=2 ^ k) (w:World) :
  Calls Tryz.prog 72 #[.int .u64 a] w fun e w'=>e=.returned (.bool true)∧w=w':=by
 have hb:=Ydd k hk
 rw [← ea] at hb
 go_enter Tryz.func72,Tryz.ntmps72
 go_wp2
 go_loop [0] (fun i=>∃ m j:Nat,j<64∧m=2 ^ j∧i=.int .u64 m) (fun i=>(intOf i).toNat)
 case atStart=>exact ⟨a,k,hk,ea,rfl⟩
 case round =>
  obtain ⟨m,j,hj,em,rfl⟩:=hrel
  have hm:=Ydd j hj
  rw [← em] at hm
  by_cases h0:m=1
  ·obtain rfl:=h0
   clear em
   go_wp2
   go_ret
   exact ⟨rfl,rfl⟩
  ·obtain ⟨i,rfl⟩:∃ i,j=i+1:=⟨j - 1,by
    rcases j with _|j
    ·exact absurd em h0
    ·rfl⟩
   obtain ⟨q,hq⟩:∃ q,q=2 ^ i:=⟨_,rfl⟩
   have hmq:m=2*q:=by rw [em,hq,Nat.pow_succ,Nat.mul_comm]
   have e2:(m:Int) % 2=0:=by omega
   have hgt:1<(m:Int):=by omega
   have HM:=Lib.hid hmq
   have EM:=Lib.hid em
   clear hmq em
   go_wp2
   go_round
   case rel=>exact ⟨q,i,by omega,hq,by rw [HM.out];exact congrArg (Value.int .u64) (by omega)⟩
   case measure=>simp [intOf];omega
theorem power_no (a:Nat) (ha:a<18446744073709551616) (hno:∀ k,a≠2 ^ k) (w:World) :
  Calls Tryz.prog 72 #[.int .u64 a] w fun e w'=>e=.returned (.bool false)∧w=w':=by
 have HN:Hid (∀ k,a≠2 ^ k):=Lib.hid hno
 clear hno
 go_enter Tryz.func72,Tryz.ntmps72
 go_wp2
 go_loop [0] (fun i=>∃ m:Nat,m<18446744073709551616∧Hid (∀ k,m≠2 ^ k)∧i=.int .u64 m) (fun i=>(intOf i).toNat)
 case atStart=>exact ⟨a,ha,HN,rfl⟩
 case round =>
  obtain ⟨m,hm,HM,rfl⟩:=hrel
  clear HN
  have h1:¬ ((m:Int)=1):=by
   intro h
   exact HM.out 0 (by omega)
  by_cases hgt:1<(m:Int)
  ·by_cases e2:(m:Int) % 2=0
   ·go_wp2
    go_round
    case rel=>exact ⟨m / 2,by omega,Lib.hid (fun k hk=>HM.out (k+1) (by rw [Nat.pow_succ];omega)),congrArg (Value.int .u64) (by omega)⟩
    case measure=>simp [intOf];omega
   ·go_wp2
    go_ret
    exact ⟨ret_boolf (beq_eq_false_iff_ne.mpr h1),rfl⟩
  ·go_wp2
   go_ret
   exact ⟨ret_boolf (beq_eq_false_iff_ne.mpr h1),rfl⟩
theorem up_div (n a:Nat) (hp:1≤a) (h:¬ n % a=0):(n+(a - 1)) / a*a=n - n % a+a:=by
 have hd:=Nat.div_add_mod n a
 have hm:=Nat.mod_lt n hp
 have e:n+(a - 1)=(n % a - 1)+(n / a+1)*a:=by rw [Nat.succ_mul,Nat.mul_comm (n / a) a];omega
 rw [e,Nat.add_mul_div_right _ _ hp,Nat.div_eq_of_lt (by omega),Nat.zero_add,Nat.succ_mul,Nat.mul_comm (n / a) a]
 omega
theorem up_div0 (n a:Nat) (hp:1≤a) (h:n % a=0):(n+(a - 1)) / a*a=n:=by
 have hd:=Nat.div_add_mod n a
 have e:n+(a - 1)=(a - 1)+(n / a)*a:=by rw [Nat.mul_comm (n / a) a];omega
 rw [e,Nat.add_mul_div_right _ _ hp,Nat.div_eq_of_lt (by omega),Nat.zero_add,Nat.mul_comm (n / a) a]
 omega
theorem rup_core0 (n a:Nat) (hp:1≤a) (hn:n<18446744073709551616) (ha:a<18446744073709551616) (h0:n % a=0)
  (HP:∀ w:World,Calls Tryz.prog 72 #[.int .u64 a] w fun e w'=>e=.returned (.bool true)∧w=w') (w:World) :
  Calls Tryz.prog 43 #[.int .u64 n,.int .u64 a] w fun e w'=>e=.returned (.tuple #[.int .u64 n,.bool true])∧w=w':=by
 have h0':(n:Int) % (a:Int)=0:=by rw [← Int.natCast_emod,h0];rfl
 clear h0
 go_enter Tryz.func43,Tryz.ntmps43
 go_wp2_with (first|(go_at_call 72;refine (HP _).mono ?_;rintro e w1 ⟨rfl,rfl⟩))
 go_ret2
 exact ⟨rfl,rfl⟩
theorem rup_core1 (n a r:Nat) (b:Bool) (hp:1≤a) (hn:n<18446744073709551616) (ha:a<18446744073709551616) (h0:¬ n % a=0)
  (HP:∀ w:World,Calls Tryz.prog 72 #[.int .u64 a] w fun e w'=>e=.returned (.bool true)∧w=w')
  (HA:∀ (x:Int) (w:World),x=((n - n % a:Nat):Int)→Calls Tryz.prog 42 #[.int .u64 x,.int .u64 a] w fun e w'=>e=.returned (.tuple #[.int .u64 r,.bool b])∧w=w') (w:World) :
  Calls Tryz.prog 43 #[.int .u64 n,.int .u64 a] w fun e w'=>e=.returned (.tuple #[.int .u64 r,.bool b])∧w=w':=by
 have hle:=Nat.mod_le n a
 have h0':¬ (n:Int) % (a:Int)=0:=by rw [← Int.natCast_emod];omega
 have hx:(n:Int) - (n:Int) % (a:Int)=((n - n % a:Nat):Int):=by rw [Int.natCast_sub hle,Int.natCast_emod]
 have hb1:0≤(n:Int) % (a:Int):=by rw [← Int.natCast_emod];omega
 have hb2:(n:Int) % (a:Int)≤n:=by rw [← Int.natCast_emod];omega
 have HX:=Lib.hid hx
 clear h0 hx hle
 go_enter Tryz.func43,Tryz.ntmps43
 go_wp2_with (first|(go_at_call 72;refine (HP _).mono ?_;rintro e w1 ⟨rfl,rfl⟩)|(go_at_call 42;refine (HA _ _ HX.out).mono ?_;rintro e w1 ⟨rfl,rfl⟩))
 go_ret2
 exact ⟨rfl,rfl⟩
theorem rup_not (n a:Nat) (ha:a<18446744073709551616) (hno:∀ k,a≠2 ^ k) (w:World) :
  Calls Tryz.prog 43 #[.int .u64 n,.int .u64 a] w fun e w'=>e=.returned (.tuple #[.int .u64 0,.bool false])∧w=w':=by
 have HP:=Lib.hid hno
 clear hno
 go_enter Tryz.func43,Tryz.ntmps43
 go_wp2_with (first|(go_at_call 72;refine (power_no a ha HP.out _).mono ?_;rintro e w1 ⟨rfl,rfl⟩))
 go_ret2
 exact ⟨rfl,rfl⟩
theorem rup_pow_low (n k a:Nat) (hk:k<64) (ea:a=2 ^ k) (h:n+(a - 1)<18446744073709551616) (w:World) :
  Calls Tryz.prog 43 #[.int .u64 n,.int .u64 a] w fun e w'=>e=.returned (.tuple #[.int .u64 (((n+(a - 1)) / a*a:Nat):Int),.bool true])∧w=w':=by
 have hb:=Ydd k hk
 rw [← ea] at hb
 by_cases h0:n % a=0
 ·rw [up_div0 n a hb.1 h0]
  exact rup_core0 n a hb.1 (by omega) hb.2 h0 (power_yes k a hk ea) w
 ·rw [up_div n a hb.1 h0]
  refine rup_core1 n a _ true hb.1 (by omega) hb.2 h0 (power_yes k a hk ea) (fun x w hx=>?_) w
  subst hx
  exact radd_low (n - n % a) a (by omega) w
theorem over_pow (n k a:Nat) (hk:k<64) (ea:a=2 ^ k) (hn:n<18446744073709551616) (h:18446744073709551616≤n+(a - 1)):¬ n % a=0∧18446744073709551616≤n - n % a+a:=by
 have hb:=Ydd k hk
 rw [← ea] at hb
 have hp:18446744073709551616=2 ^ k*2 ^ (64 - k):=by rw [← Nat.pow_add,show k+(64 - k)=64 by omega]
 rw [← ea] at hp
 obtain ⟨c,ec⟩:∃ c,c=2 ^ (64 - k):=⟨_,rfl⟩
 rw [← ec] at hp
 have hd:=Nat.div_add_mod n a
 have hm:=Nat.mod_lt n hb.1
 obtain ⟨q,eq⟩:∃ q,q=n / a:=⟨_,rfl⟩
 rw [← eq] at hd
 have hqc:q<c:=by
  rcases Nat.lt_or_ge q c with h'|h'
  ·exact h'
  ·have:=Nat.mul_le_mul_left a h'
   omega
 have h1:=Nat.mul_le_mul_left a (Nat.succ_le_of_lt hqc)
 rw [Nat.mul_succ] at h1
 rcases Nat.lt_or_ge (q+1) c with h2|h2
 ·have h3:=Nat.mul_le_mul_left a (Nat.succ_le_of_lt h2)
  rw [Nat.mul_succ,Nat.mul_succ] at h3
  omega
 ·have h3:=Nat.mul_le_mul_left a h2
  rw [Nat.mul_succ] at h3
  omega
theorem rup_pow_high (n k a:Nat) (hn:n<18446744073709551616) (hk:k<64) (ea:a=2 ^ k) (h:18446744073709551616≤n+(a - 1)) (w:World) :
  Calls Tryz.prog 43 #[.int .u64 n,.int .u64 a] w fun e w'=>e=.returned (.tuple #[.int .u64 0,.bool false])∧w=w':=by
 have hb:=Ydd k hk
 rw [← ea] at hb
 have ho:=over_pow n k a hk ea hn h
 refine rup_core1 n a 0 false hb.1 (by omega) hb.2 ho.1 (power_yes k a hk ea) (fun x w hx=>?_) w
 subst hx
 exact radd_high (n - n % a) a (by omega) hb.2 ho.2 w
end
section
def leOf:List UInt8→Nat
 | []=>0
 | b::r=>b.toNat+256*leOf r
theorem leOf_lt:∀ l:List UInt8,leOf l<256 ^ l.length
 | []=>by simp [leOf]
 | b::r=>by
  have:=leOf_lt r
  have hb:=b.toNat_lt
  simp only [leOf,List.length_cons,Nat.pow_succ]
  omega
theorem leOf_snoc (b:UInt8):∀ l:List UInt8,leOf (l++[b])=leOf l+b.toNat*256 ^ l.length
 | []=>by simp [leOf]
 | c::r=>by
  have:=leOf_snoc b r
  simp only [List.cons_append,leOf,this,List.length_cons,Nat.pow_succ]
  rw [Nat.mul_add]
  have:256*(b.toNat*256 ^ r.length)=b.toNat*(256 ^ r.length*256):=by
   rw [Nat.mul_comm 256,Nat.mul_assoc]
  omega
theorem or_join (x b i:Nat) (hi:i<8) (hb:b<256) (hx:x<256 ^ i):x ||| b*2 ^ (8*i)=x+b*256 ^ i:=by
 have e:(2:Nat) ^ (8*i)=256 ^ i:=by rw [Nat.pow_mul]
 rw [e,Nat.or_comm]
 have h:=nat_join (8*i) (b*256 ^ i) x (by rw [e];exact Nat.mul_mod_left _ _) (by rw [e];exact hx)
 rw [h,Nat.add_comm]
theorem pow_le (i:Nat) (hi:i<8):256 ^ i≤72057594037927936:=by
 have:(256:Nat) ^ i≤256 ^ 7:=Nat.pow_le_pow_right (by decide) (by omega)
 have e:(256:Nat) ^ 7=72057594037927936:=by decide
 omega
theorem lay_num (x b i:Nat) (hi:i<8) (hb:b<256) (hx:x<256 ^ i) :
  bits .or .u64 (x:Int) (IntKind.u64.wrap ((b:Int)*2 ^ (8*i)))=((x+b*256 ^ i:Nat):Int):=by
 have hp:=pow_le i hi
 have hmul:b*256 ^ i≤255*256 ^ i:=Nat.mul_le_mul_right _ (by omega)
 have e:(b:Int)*2 ^ (8*i)=((b*2 ^ (8*i):Nat):Int):=by simp
 have e2:(2:Nat) ^ (8*i)=256 ^ i:=by rw [Nat.pow_mul]
 rw [e,IntWalk.u64_in _ (by rw [e2];omega),u64_or_nat x _ (by omega) (by rw [e2];omega),or_join x b i hi hb hx]
theorem lay_low (i b x:Nat) (hi:i<8) (hb:b<256) (hx:x<256 ^ i) (B:Nat) (w:World)
  (h0:w.cell? ⟨B,0,none⟩=some (.int .u64 x)) (hf:w.frozen? ⟨B,0,none⟩=false) :
  Calls Tryz.prog 139 #[.int .i64 i,.int .u8 b,.pointer (some ⟨B,0,none⟩)] w fun e w'=>e=.returned (.tuple #[])∧(w.setCell ⟨B,0,none⟩ (.int .u64 ((x+b*256 ^ i:Nat):Int))).drew=w':=by
 have e1:(i:Int) / 8=0:=by omega
 have hl:=lay_num x b i hi hb hx
 have e2:i % 8=i:=by omega
 go_enter Tryz.func139,Tryz.ntmps139
 go_wp2
 go_region
 all_goals go_end0
 all_goals exact ⟨rfl,rfl⟩
theorem lay_high (i j b x:Nat) (hi:j<8) (ej:i=8+j) (hb:b<256) (hx:x<256 ^ j) (B:Nat) (w:World)
  (h0:w.cell? ⟨B,1,none⟩=some (.int .u64 x)) (hf:w.frozen? ⟨B,1,none⟩=false) :
  Calls Tryz.prog 139 #[.int .i64 i,.int .u8 b,.pointer (some ⟨B,0,none⟩)] w fun e w'=>e=.returned (.tuple #[])∧(w.setCell ⟨B,1,none⟩ (.int .u64 ((x+b*256 ^ j:Nat):Int))).drew=w':=by
 have e1:(i:Int) / 8=1:=by omega
 have hl:=lay_num x b j hi hb hx
 have e2:i % 8=j:=by omega
 have E:=Lib.hid ej
 have hi16:i<16:=by omega
 clear ej
 go_enter Tryz.func139,Tryz.ntmps139
 go_wp2
 go_region
 all_goals go_end0
 all_goals exact ⟨rfl,rfl⟩
theorem lay_first (b:Nat) (hb:b<256) (B:Nat) (w:World)
  (h0:w.cell? ⟨B,0,none⟩=some (.int .u64 0)) (hf:w.frozen? ⟨B,0,none⟩=false) :
  Calls Tryz.prog 139 #[.int .i64 0,.int .u8 b,.pointer (some ⟨B,0,none⟩)] w fun e w'=>e=.returned (.tuple #[])∧(w.setCell ⟨B,0,none⟩ (.int .u64 b)).drew=w':=by
 have h:=lay_low 0 b 0 (by decide) hb (by decide) B w h0 hf
 rw [show (0+b*256 ^ 0)=b by omega] at h
 exact h
end
section
namespace Pop
theorem land_cons (c r m s:Nat) (hc:c<256) (hm:m<256):(c+256*r) &&& (m+256*s)=(c &&& m)+256*(r &&& s):=by
 have h1:((c+256*r) &&& (m+256*s)) % 2 ^ 8=c &&& m:=by
  rw [Nat.and_mod_two_pow,show (c+256*r) % 2 ^ 8=c by omega,show (m+256*s) % 2 ^ 8=m by omega]
 have h2:((c+256*r) &&& (m+256*s)) / 2 ^ 8=r &&& s:=by
  rw [Nat.and_div_two_pow,show (c+256*r) / 2 ^ 8=r by omega,show (m+256*s) / 2 ^ 8=s by omega]
 have:=Nat.div_add_mod ((c+256*r) &&& (m+256*s)) (2 ^ 8)
 rw [h1,h2] at this
 omega
def rep (m:Nat):Nat→Nat
 | 0=>0
 | j+1=>m+256*rep m j
theorem rep1:rep 0x55 8=6148914691236517205:=by decide
theorem rep2:rep 0x33 8=3689348814741910323:=by decide
theorem rep3:rep 0x0f 8=1085102592571150095:=by decide
def num:List Nat→Nat
 | []=>0
 | c::r=>c+256*num r
def f1 (c:Nat):Nat:=((c / 2) &&& 0x55)+(c &&& 0x55)
def f2 (c:Nat):Nat:=((c / 4) &&& 0x33)+(c &&& 0x33)
def f3 (c:Nat):Nat:=(c / 16+c) &&& 0x0f
theorem d1:∀ c,c<256→∀ t,t<2→(c / 2+128*t) &&& 0x55=(c / 2) &&& 0x55:=by decide +kernel
theorem d2:∀ c,c<256→∀ t,t<4→(c / 4+64*t) &&& 0x33=(c / 4) &&& 0x33:=by decide +kernel
theorem step1:∀ (l:List Nat),(∀ c∈l,c<256)→(num l / 2 &&& rep 0x55 l.length)+(num l &&& rep 0x55 l.length)=num (l.map f1)
 | [],_=>by simp [num,rep]
 | c::r,h=>by
  have hc:c<256:=h c (by simp)
  have ih:=step1 r (fun x hx=>h x (by simp [hx]))
  simp only [num,rep,List.length_cons,List.map_cons]
  have e:(c+256*num r) / 2=(c / 2+128*(num r % 2))+256*(num r / 2):=by omega
  rw [e,land_cons _ _ _ _ (by omega) (by decide),land_cons _ _ _ _ hc (by decide),d1 c hc _ (Nat.mod_lt _ (by decide)),← ih,f1]
  omega
theorem step2:∀ (l:List Nat),(∀ c∈l,c<256)→(num l / 4 &&& rep 0x33 l.length)+(num l &&& rep 0x33 l.length)=num (l.map f2)
 | [],_=>by simp [num,rep]
 | c::r,h=>by
  have hc:c<256:=h c (by simp)
  have ih:=step2 r (fun x hx=>h x (by simp [hx]))
  simp only [num,rep,List.length_cons,List.map_cons]
  have e:(c+256*num r) / 4=(c / 4+64*(num r % 4))+256*(num r / 4):=by omega
  rw [e,land_cons _ _ _ _ (by omega) (by decide),land_cons _ _ _ _ hc (by decide),d2 c hc _ (Nat.mod_lt _ (by decide)),← ih,f2]
  omega
def small (c:Nat):Prop:=c / 16≤4∧c % 16≤4
theorem d3:∀ c,c<69→c / 16≤4∧c % 16≤4→∀ t,t<5→(c / 16+16*t+c) &&& 0x0f=f3 c:=by decide +kernel
theorem low_nib (l:List Nat) (h:∀ c∈l,c<69∧small c):num l % 16<5:=by
 cases l with
 | nil=>simp [num]
 | cons c r =>
  have hc:=h c (by simp)
  unfold small at hc
  simp only [num]
  omega
theorem step3:∀ (l:List Nat),(∀ c∈l,c<69∧small c)→(num l / 16+num l) &&& rep 0x0f l.length=num (l.map f3)
 | [],_=>by simp [num,rep]
 | c::r,h=>by
  have hc:=h c (by simp)
  have hr:∀ x∈r,x<69∧small x:=fun x hx=>h x (by simp [hx])
  have ih:=step3 r hr
  have hl:=low_nib r hr
  have hs:=hc.2
  unfold small at hs
  simp only [num,rep,List.length_cons,List.map_cons]
  have e:(c+256*num r) / 16+(c+256*num r)=(c / 16+16*(num r % 16)+c)+256*(num r / 16+num r):=by omega
  rw [e,land_cons _ _ _ _ (by omega) (by decide),d3 c hc.1 hs _ hl,ih]
def pc8 (c:Nat):Nat:=f3 (f2 (f1 c))
theorem f21:∀ c,c<256→f1 c<256∧f2 (f1 c)<69∧f2 (f1 c) / 16≤4∧f2 (f1 c) % 16≤4∧pc8 c≤8:=by decide +kernel
theorem pc8_zero:∀ c,c<256→pc8 c=0→c=0:=by decide +kernel
theorem pc8_one:∀ c,c<256→pc8 c=1→∃ i,i<8∧c=2 ^ i:=by decide +kernel
theorem div_num (c:Nat) (r:List Nat) (h:c<256):num (c::r) / 256=num r:=by
 simp only [num];omega
theorem mod_num (c:Nat) (r:List Nat) (h:c<128):num (c::r) % 128=c:=by
 simp only [num];omega
theorem num_add (a b:Nat) (r s t:List Nat) (h:num r+num s=num t):num (a::r)+num (b::s)=num ((a+b)::t):=by
 simp only [num];omega
theorem num_nil (l:List Nat):num l+num []=num l:=by simp [num]
theorem num_all:∀ l:List Nat,(∀ c∈l,c<256)→num l<256 ^ l.length
 | [],_=>by simp [num]
 | c::r,h=>by
  have hc:=h c (by simp)
  have:=num_all r (fun x hx=>h x (by simp [hx]))
  simp only [num,List.length_cons,Nat.pow_succ]
  omega
theorem fold8 (p0 p1 p2 p3 p4 p5 p6 p7:Nat) (h0:p0≤8) (h1:p1≤8) (h2:p2≤8) (h3:p3≤8) (h4:p4≤8) (h5:p5≤8) (h6:p6≤8) (h7:p7≤8)
  (x y z t:Nat) (hx:x=num [p0,p1,p2,p3,p4,p5,p6,p7]) (hy:y=x+x / 256) (hz:z=y+y / 65536) (ht:t=z+z / 4294967296) :
  t<18446744073709551616∧z<18446744073709551616∧y<18446744073709551616∧t % 128=p0+p1+p2+p3+p4+p5+p6+p7:=by
 have e256:(256:Nat) ^ 8=18446744073709551616:=by decide
 have hy':y=num [p0+p1,p1+p2,p2+p3,p3+p4,p4+p5,p5+p6,p6+p7,p7]:=by
  rw [hy,hx,div_num _ _ (by omega)]
  exact num_add _ _ _ _ _ (num_add _ _ _ _ _ (num_add _ _ _ _ _ (num_add _ _ _ _ _ (num_add _ _ _ _ _ (num_add _ _ _ _ _ (num_add _ _ _ _ _ (num_nil _)))))))
 clear hy hx
 have hz':z=num [p0+p1+(p2+p3),p1+p2+(p3+p4),p2+p3+(p4+p5),p3+p4+(p5+p6),p4+p5+(p6+p7),p5+p6+p7,p6+p7,p7]:=by
  rw [hz,show (65536:Nat)=256*256 by rfl,← Nat.div_div_eq_div_mul,hy',div_num _ _ (by omega),div_num _ _ (by omega)]
  exact num_add _ _ _ _ _ (num_add _ _ _ _ _ (num_add _ _ _ _ _ (num_add _ _ _ _ _ (num_add _ _ _ _ _ (num_add _ _ _ _ _ (num_nil _))))))
 clear hz
 have ht':t=num [p0+p1+(p2+p3)+(p4+p5+(p6+p7)),p1+p2+(p3+p4)+(p5+p6+p7),p2+p3+(p4+p5)+(p6+p7),p3+p4+(p5+p6)+p7,p4+p5+(p6+p7),p5+p6+p7,p6+p7,p7]:=by
  rw [ht,show (4294967296:Nat)=256*256*(256*256) by rfl,← Nat.div_div_eq_div_mul,← Nat.div_div_eq_div_mul,← Nat.div_div_eq_div_mul,hz',div_num _ _ (by omega),div_num _ _ (by omega),div_num _ _ (by omega),div_num _ _ (by omega)]
  exact num_add _ _ _ _ _ (num_add _ _ _ _ _ (num_add _ _ _ _ _ (num_add _ _ _ _ _ (num_nil _))))
 clear ht
 refine ⟨?_,?_,?_,?_⟩
 ·rw [ht',← e256]
  exact num_all [_,_,_,_,_,_,_,_] (by simp only [List.forall_mem_cons];refine ⟨?_,?_,?_,?_,?_,?_,?_,?_,?_⟩ <;> first|omega|simp)
 ·rw [hz',← e256]
  exact num_all [_,_,_,_,_,_,_,_] (by simp only [List.forall_mem_cons];refine ⟨?_,?_,?_,?_,?_,?_,?_,?_,?_⟩ <;> first|omega|simp)
 ·rw [hy',← e256]
  exact num_all [_,_,_,_,_,_,_,_] (by simp only [List.forall_mem_cons];refine ⟨?_,?_,?_,?_,?_,?_,?_,?_,?_⟩ <;> first|omega|simp)
 ·rw [ht',mod_num _ _ (by omega)]
  omega
def dig (n:Nat):Nat→List Nat
 | 0=>[]
 | j+1=>n % 256::dig (n / 256) j
theorem dig_lt (j:Nat):∀ n,∀ c∈dig n j,c<256:=by
 induction j with
 | zero=>intro n c hc;simp [dig] at hc
 | succ j ih =>
  intro n c hc
  simp only [dig,List.mem_cons] at hc
  rcases hc with rfl|hc
  ·exact Nat.mod_lt _ (by decide)
  ·exact ih _ c hc
theorem num_dig (j:Nat):∀ n,n<256 ^ j→num (dig n j)=n:=by
 induction j with
 | zero=>intro n h;simp at h;simp [dig,num,h]
 | succ j ih =>
  intro n h
  rw [Nat.pow_succ] at h
  simp only [dig,num]
  rw [ih (n / 256) (by omega)]
  omega
theorem num_double:∀ l:List Nat,num (l.map (2*·))=2*num l
 | []=>rfl
 | c::r=>by simp only [List.map_cons,num,num_double r];omega
theorem half_num (l:List Nat) (h:∀ c∈l,c<128):2*num l<256 ^ l.length:=by
 rw [← num_double]
 have:=num_all (l.map (2*·)) (by
  intro c hc
  obtain ⟨d,hd,rfl⟩:=List.mem_map.mp hc
  have:=h d hd
  show 2*d<256
  omega)
 rw [List.length_map] at this
 exact this
theorem ones1_nat (n:Nat) (hn:n<18446744073709551616) (h:(n / 2 &&& 6148914691236517205)+(n &&& 6148914691236517205)<18446744073709551616) :
  ones1 (n:Int)=(((n / 2 &&& 6148914691236517205)+(n &&& 6148914691236517205):Nat):Int):=by
 unfold ones1
 rw [show (n:Int) / 2=((n / 2:Nat):Int) by omega]
 have a:=bits_and_u64_nat (n / 2) 6148914691236517205 (by omega) (by decide)
 have b:=bits_and_u64_nat n 6148914691236517205 hn (by decide)
 rw [show (6148914691236517205:Int)=((6148914691236517205:Nat):Int) by rfl,a,b,IntWalk.u64_in _ (by omega)]
 omega
theorem ones2_nat (n:Nat) (hn:n<18446744073709551616) (h:(n / 4 &&& 3689348814741910323)+(n &&& 3689348814741910323)<18446744073709551616) :
  ones2 (n:Int)=(((n / 4 &&& 3689348814741910323)+(n &&& 3689348814741910323):Nat):Int):=by
 unfold ones2
 rw [show (n:Int) / 4=((n / 4:Nat):Int) by omega]
 have a:=bits_and_u64_nat (n / 4) 3689348814741910323 (by omega) (by decide)
 have b:=bits_and_u64_nat n 3689348814741910323 hn (by decide)
 rw [show (3689348814741910323:Int)=((3689348814741910323:Nat):Int) by rfl,a,b,IntWalk.u64_in _ (by omega)]
 omega
theorem ones3_nat (n:Nat) (h:n / 16+n<18446744073709551616):ones3 (n:Int)=(((n / 16+n) &&& 1085102592571150095:Nat):Int):=by
 unfold ones3
 rw [show (n:Int) / 16+n=((n / 16+n:Nat):Int) by omega,IntWalk.u64_in _ (by omega)]
 exact bits_and_u64_nat (n / 16+n) 1085102592571150095 h (by decide)
theorem ones4_nat (n:Nat) (h:n+n / 256<18446744073709551616):ones4 (n:Int)=((n+n / 256:Nat):Int):=by
 unfold ones4
 rw [IntWalk.u64_in _ (by omega)];omega
theorem ones5_nat (n:Nat) (h:n+n / 65536<18446744073709551616):ones5 (n:Int)=((n+n / 65536:Nat):Int):=by
 unfold ones5
 rw [IntWalk.u64_in _ (by omega)];omega
theorem ones6_nat (n:Nat) (h:n+n / 4294967296<18446744073709551616):ones6 (n:Int)=((n+n / 4294967296:Nat):Int):=by
 unfold ones6
 rw [IntWalk.u64_in _ (by omega)];omega
theorem last_nat (t:Nat):bits .and .i64 (wrap64 (t:Int)) 127=((t % 128:Nat):Int):=by
 rw [i64_and127]
 unfold wrap64
 omega
theorem ones_dig (n c0 c1 c2 c3 c4 c5 c6 c7:Nat) (hn:n<18446744073709551616) (hl:∀ c∈[c0,c1,c2,c3,c4,c5,c6,c7],c<256) (en:n=num [c0,c1,c2,c3,c4,c5,c6,c7]) :
  Yeu (n:Int)=((pc8 c0+pc8 c1+pc8 c2+pc8 c3+pc8 c4+pc8 c5+pc8 c6+pc8 c7:Nat):Int):=by
 have e256:(256:Nat) ^ 8=18446744073709551616:=by decide
 have s1:=step1 [c0,c1,c2,c3,c4,c5,c6,c7] hl
 rw [← en,show [c0,c1,c2,c3,c4,c5,c6,c7].length=8 by rfl,rep1] at s1
 have hl1:∀ c∈[c0,c1,c2,c3,c4,c5,c6,c7].map f1,c<256:=by
  intro c hc
  obtain ⟨d,hd,rfl⟩:=List.mem_map.mp hc
  exact (f21 d (hl d hd)).1
 have b1:=num_all _ hl1
 rw [show ([c0,c1,c2,c3,c4,c5,c6,c7].map f1).length=8 by rfl,e256] at b1
 have s2:=step2 _ hl1
 rw [show ([c0,c1,c2,c3,c4,c5,c6,c7].map f1).length=8 by rfl,rep2,List.map_map] at s2
 have hl2:∀ c∈[c0,c1,c2,c3,c4,c5,c6,c7].map (f2 ∘ f1),c<69∧small c:=by
  intro c hc
  obtain ⟨d,hd,rfl⟩:=List.mem_map.mp hc
  have:=f21 d (hl d hd)
  exact ⟨this.2.1,this.2.2.1,this.2.2.2.1⟩
 have b2:=half_num ([c0,c1,c2,c3,c4,c5,c6,c7].map (f2 ∘ f1)) (fun c hc=>by have:=(hl2 c hc).1;omega)
 rw [show ([c0,c1,c2,c3,c4,c5,c6,c7].map (f2 ∘ f1)).length=8 by rfl,e256] at b2
 have s3:=step3 _ hl2
 rw [show ([c0,c1,c2,c3,c4,c5,c6,c7].map (f2 ∘ f1)).length=8 by rfl,rep3,List.map_map] at s3
 have h8:∀ c∈[c0,c1,c2,c3,c4,c5,c6,c7],pc8 c≤8:=fun c hc=>(f21 c (hl c hc)).2.2.2.2
 simp only [List.forall_mem_cons] at h8
 obtain ⟨h0,h1,h2,h3,h4,h5,h6,h7,_⟩:=h8
 obtain ⟨x1,ex1⟩:∃ x,x=num ([c0,c1,c2,c3,c4,c5,c6,c7].map f1):=⟨_,rfl⟩
 obtain ⟨x2,ex2⟩:∃ x,x=num ([c0,c1,c2,c3,c4,c5,c6,c7].map (f2 ∘ f1)):=⟨_,rfl⟩
 obtain ⟨x3,ex3⟩:∃ x,x=num [pc8 c0,pc8 c1,pc8 c2,pc8 c3,pc8 c4,pc8 c5,pc8 c6,pc8 c7]:=⟨_,rfl⟩
 rw [← ex1] at s1 b1 s2
 rw [← ex2] at s2 b2 s3
 have s3':(x2 / 16+x2) &&& 1085102592571150095=x3:=by rw [s3,ex3];rfl
 obtain ⟨y,ey⟩:∃ y,y=x3+x3 / 256:=⟨_,rfl⟩
 obtain ⟨z,ez⟩:∃ z,z=y+y / 65536:=⟨_,rfl⟩
 obtain ⟨t,et⟩:∃ t,t=z+z / 4294967296:=⟨_,rfl⟩
 obtain ⟨bt,bz,by',last⟩:=fold8 _ _ _ _ _ _ _ _ h0 h1 h2 h3 h4 h5 h6 h7 x3 y z t ex3 ey ez et
 unfold Yeu
 rw [ones1_nat n hn (by rw [s1];exact b1),s1,ones2_nat x1 b1 (by rw [s2];omega),s2,ones3_nat x2 (by omega),s3',ones4_nat x3 (by omega),← ey,ones5_nat y (by omega),← ez,ones6_nat z (by omega),← et,last_nat,last]
theorem sum_zero:∀ l:List Nat,(∀ c∈l,c<256)→(l.map pc8).sum=0→num l=0
 | [],_,_=>rfl
 | c::r,h,hs=>by
  simp only [List.map_cons,List.sum_cons] at hs
  have hc:=pc8_zero c (h c (by simp)) (by omega)
  have hr:=sum_zero r (fun x hx=>h x (by simp [hx])) (by omega)
  simp only [num];omega
theorem sum_one:∀ l:List Nat,(∀ c∈l,c<256)→(l.map pc8).sum=1→∃ i,i<8*l.length∧num l=2 ^ i
 | [],_,hs=>by simp at hs
 | c::r,h,hs=>by
  simp only [List.map_cons,List.sum_cons] at hs
  have hr:∀ x∈r,x<256:=fun x hx=>h x (by simp [hx])
  by_cases h0:pc8 c=0
  ·have hc:=pc8_zero c (h c (by simp)) h0
   obtain ⟨i,hi,he⟩:=sum_one r hr (by omega)
   refine ⟨i+8,by simp only [List.length_cons];omega,?_⟩
   simp only [num]
   rw [he,hc,Nat.pow_add]
   omega
  ·obtain ⟨i,hi,he⟩:=pc8_one c (h c (by simp)) (by omega)
   have hz:=sum_zero r hr (by omega)
   refine ⟨i,by simp only [List.length_cons];omega,?_⟩
   simp only [num]
   rw [hz,he]
   omega
end Pop
theorem ones_pow (n:Nat) (hn:n<18446744073709551616) (h:Yeu (n:Int)=1):∃ k,k<64∧n=2 ^ k:=by
 have hd:=Pop.num_dig 8 n (by rw [show (256:Nat) ^ 8=18446744073709551616 by decide];exact hn)
 have hl:=Pop.dig_lt 8 n
 simp only [Pop.dig] at hd hl
 rw [Pop.ones_dig n _ _ _ _ _ _ _ _ hn hl hd.symm] at h
 obtain ⟨i,hi,he⟩:=Pop.sum_one _ hl (by simp only [List.map_cons,List.map_nil,List.sum_cons,List.sum_nil];omega)
 exact ⟨i,hi,by rw [← he,hd]⟩
end
end Go.Proofs.YtfhiljglfhekdaaGreat
