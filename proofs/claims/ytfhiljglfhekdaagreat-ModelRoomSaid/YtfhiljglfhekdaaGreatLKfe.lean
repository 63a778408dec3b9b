/-
  Texts of one layer, one behind the other: memory, contracts of the functions, and what follows of them.
  Conditions: as each theorem says.
-/
import Derived.Test.YtfhiljglfhekdaaGreatLKfd
import Derived.Test.YtfhiljglfhekdaaGreatLMpb
import Derived.Test.YtfhiljglfhekdaaGreatLWob
import Derived.Test.YtfhiljglfhekdaaGreatLHsc
import Derived.Test.YtfhiljglfhekdaaGreatLKfc
import Derived.Test.YtfhiljglfhekdaaGreatLKfb
import Derived.Test.YtfhiljglfhekdaaGreatKoeT
set_option linter.unusedVariables false
set_option linter.unusedSimpArgs false
set_option maxRecDepth 100000
namespace Go.Proofs.YtfhiljglfhekdaaGreat
open Go.RowKit
section
section
variable {w w' W:World} {F:Nat→Prop} {base all K c i:Nat} {v:Value} {S S':MS} {e p q k:Nat} {x:OpM}
set_option maxHeartbeats 2000000 in
theorem rdo_arg {c:Int} (h:StIs w F base v all S) (ha:x.kind<1∨15<x.kind∨c<0∨7<c) :
  Calls Tryz.prog 26 #[v,.int .i64 c,.agg (opC x)] w fun e w'=>∃ v',e=.returned (.tuple #[v',.agg #[.int .i64 1,.int .u64 0,.int .u64 0]])∧StIs w' F base v' all S∧w.grownBy w' none:=by
 obtain ⟨cs,rfl,hs0,hs1,hs00,hsl⟩:=h.cells
 have BX:=Ybf w cs (opC x)
 obtain ⟨W0,hW0⟩:∃ W0,((((w.alloc (.cells cs 36)).alloc (.cells (opC x) 41)).alloc (.cells sZ 36)).alloc (.cells rZ 46))=W0:=⟨_,rfl⟩
 rw [hW0] at BX
 have HST:=Lib.hid h
 have htold:=fun (V:World)=>Yc2 h 1 V
 have HTOLD:=Lib.hid htold
 clear h htold
 obtain ⟨d0,d1,d2,d3,d4,d5,d6,d7⟩:=Yal BX.op
 by_cases h1:x.kind<1
 ·clear ha
  unfold sZ rZ at hW0
  go_enter Tryz.func26,Tryz.ntmps26
  go_wp2_with (first
   | (refine Yad rfl 36 _ rfl _ 0 rfl BX.st cs (fun j v hj=>by simpa using hj) _ Tryz.underlying36 rfl (by rw [Yai,hs0]) ?_)
   | (go_at_call 48;(with_reducible refine (HTOLD.out _).mono ?_);rintro e w2 ⟨rfl,hg2⟩;replace BX:=BX.later hg2)
   | (refine Yae rfl 36 _ _ rfl _ 0 rfl rfl BX.rs (by rw [hs0];exact Nat.le_refl _) (by rw [Yai,hs0]) hs1 ?_;intro W1 p1 g1;rw [Yau _ _ hs0] at p1;obtain ⟨y0,y1,y2⟩:=Yaf (BX.res g1);obtain ⟨z0,z1,z2⟩:=Yak (BX.res g1)))
  obtain ⟨q1,q2,q3,q4⟩:=BX.done (HST.out.later BX.gr) p1 g1 (e:=1) (p:=0) (q:=0)
  refine bodyPost_ret (Yav rfl _ rfl rfl q1 q2 Tryz.underlying36 rfl (by rw [Yai,hs0]) Tryz.underlying46 rfl Ya0) rfl ?_
  exact ⟨_,rfl,q3,q4⟩
 ·by_cases h2:15<x.kind
  ·clear ha
   unfold sZ rZ at hW0
   go_enter Tryz.func26,Tryz.ntmps26
   go_wp2_with (first
    | (refine Yad rfl 36 _ rfl _ 0 rfl BX.st cs (fun j v hj=>by simpa using hj) _ Tryz.underlying36 rfl (by rw [Yai,hs0]) ?_)
    | (go_at_call 48;(with_reducible refine (HTOLD.out _).mono ?_);rintro e w2 ⟨rfl,hg2⟩;replace BX:=BX.later hg2)
    | (refine Yae rfl 36 _ _ rfl _ 0 rfl rfl BX.rs (by rw [hs0];exact Nat.le_refl _) (by rw [Yai,hs0]) hs1 ?_;intro W1 p1 g1;rw [Yau _ _ hs0] at p1;obtain ⟨y0,y1,y2⟩:=Yaf (BX.res g1);obtain ⟨z0,z1,z2⟩:=Yak (BX.res g1)))
   obtain ⟨q1,q2,q3,q4⟩:=BX.done (HST.out.later BX.gr) p1 g1 (e:=1) (p:=0) (q:=0)
   refine bodyPost_ret (Yav rfl _ rfl rfl q1 q2 Tryz.underlying36 rfl (by rw [Yai,hs0]) Tryz.underlying46 rfl Ya0) rfl ?_
   exact ⟨_,rfl,q3,q4⟩
  ·by_cases h3:c<0
   ·clear ha
    unfold sZ rZ at hW0
    go_enter Tryz.func26,Tryz.ntmps26
    go_wp2_with (first
     | (refine Yad rfl 36 _ rfl _ 0 rfl BX.st cs (fun j v hj=>by simpa using hj) _ Tryz.underlying36 rfl (by rw [Yai,hs0]) ?_)
     | (go_at_call 48;(with_reducible refine (HTOLD.out _).mono ?_);rintro e w2 ⟨rfl,hg2⟩;replace BX:=BX.later hg2)
     | (refine Yae rfl 36 _ _ rfl _ 0 rfl rfl BX.rs (by rw [hs0];exact Nat.le_refl _) (by rw [Yai,hs0]) hs1 ?_;intro W1 p1 g1;rw [Yau _ _ hs0] at p1;obtain ⟨y0,y1,y2⟩:=Yaf (BX.res g1);obtain ⟨z0,z1,z2⟩:=Yak (BX.res g1)))
    obtain ⟨q1,q2,q3,q4⟩:=BX.done (HST.out.later BX.gr) p1 g1 (e:=1) (p:=0) (q:=0)
    refine bodyPost_ret (Yav rfl _ rfl rfl q1 q2 Tryz.underlying36 rfl (by rw [Yai,hs0]) Tryz.underlying46 rfl Ya0) rfl ?_
    exact ⟨_,rfl,q3,q4⟩
   ·have h4:7<c:=by omega
    clear ha
    unfold sZ rZ at hW0
    go_enter Tryz.func26,Tryz.ntmps26
    go_wp2_with (first
     | (refine Yad rfl 36 _ rfl _ 0 rfl BX.st cs (fun j v hj=>by simpa using hj) _ Tryz.underlying36 rfl (by rw [Yai,hs0]) ?_)
     | (go_at_call 48;(with_reducible refine (HTOLD.out _).mono ?_);rintro e w2 ⟨rfl,hg2⟩;replace BX:=BX.later hg2)
     | (refine Yae rfl 36 _ _ rfl _ 0 rfl rfl BX.rs (by rw [hs0];exact Nat.le_refl _) (by rw [Yai,hs0]) hs1 ?_;intro W1 p1 g1;rw [Yau _ _ hs0] at p1;obtain ⟨y0,y1,y2⟩:=Yaf (BX.res g1);obtain ⟨z0,z1,z2⟩:=Yak (BX.res g1)))
    obtain ⟨q1,q2,q3,q4⟩:=BX.done (HST.out.later BX.gr) p1 g1 (e:=1) (p:=0) (q:=0)
    refine bodyPost_ret (Yav rfl _ rfl rfl q1 q2 Tryz.underlying36 rfl (by rw [Yai,hs0]) Tryz.underlying46 rfl Ya0) rfl ?_
    exact ⟨_,rfl,q3,q4⟩
set_option maxHeartbeats 2000000 in
theorem rdo_client (h:StIs w F base v all S) (hk8:k<8) (h1:1≤x.kind) (h2:x.kind<15) (hl:S.lv k=false) :
  Calls Tryz.prog 26 #[v,.int .i64 k,.agg (opC x)] w fun e w'=>∃ v',e=.returned (.tuple #[v',.agg #[.int .i64 10,.int .u64 0,.int .u64 0]])∧StIs w' F base v' all S∧w.grownBy w' none:=by
 obtain ⟨cs,rfl,hs0,hs1,hs00,hsl⟩:=h.cells
 have BX:=Ybf w cs (opC x)
 obtain ⟨W0,hW0⟩:∃ W0,((((w.alloc (.cells cs 36)).alloc (.cells (opC x) 41)).alloc (.cells sZ 36)).alloc (.cells rZ 46))=W0:=⟨_,rfl⟩
 rw [hW0] at BX
 have HST:=Lib.hid h
 have htold:=fun (V:World)=>Yc2 h 10 V
 have HTOLD:=Lib.hid htold
 clear h htold
 obtain ⟨d0,d1,d2,d3,d4,d5,d6,d7⟩:=Yal BX.op
 have cl:=Yas BX.st (hsl k hk8)
 rw [hl] at cl
 have i1:¬ x.kind<1:=by omega
 have i2:¬ 15<x.kind:=by omega
 have i3:¬ (k:Int)<0:=by omega
 have i4:¬ 7<(k:Int):=by omega
 have i5:¬ x.kind=15:=by omega
 have i6:(x.kind != 15)=true:=by simpa using i5
 unfold sZ rZ at hW0
 go_enter Tryz.func26,Tryz.ntmps26
 go_wp2_with (first
  | (refine Yad rfl 36 _ rfl _ 0 rfl BX.st cs (fun j v hj=>by simpa using hj) _ Tryz.underlying36 rfl (by rw [Yai,hs0]) ?_)
  | (go_at_call 48;(with_reducible refine (HTOLD.out _).mono ?_);rintro e w2 ⟨rfl,hg2⟩;replace BX:=BX.later hg2)
  | (refine Yae rfl 36 _ _ rfl _ 0 rfl rfl BX.rs (by rw [hs0];exact Nat.le_refl _) (by rw [Yai,hs0]) hs1 ?_;intro W1 p1 g1;rw [Yau _ _ hs0] at p1;obtain ⟨y0,y1,y2⟩:=Yaf (BX.res g1);obtain ⟨z0,z1,z2⟩:=Yak (BX.res g1)))
 obtain ⟨q1,q2,q3,q4⟩:=BX.done (HST.out.later BX.gr) p1 g1 (e:=10) (p:=0) (q:=0)
 refine bodyPost_ret (Yav rfl _ rfl rfl q1 q2 Tryz.underlying36 rfl (by rw [Yai,hs0]) Tryz.underlying46 rfl Ya0) rfl ?_
 exact ⟨_,rfl,q3,q4⟩
set_option maxHeartbeats 2000000 in
theorem rdo_there (h:StIs w F base v all S) (hk8:k<8) (hk:x.kind=15) (hl:S.lv k=true) :
  Calls Tryz.prog 26 #[v,.int .i64 k,.agg (opC x)] w fun e w'=>∃ v',e=.returned (.tuple #[v',.agg #[.int .i64 7,.int .u64 0,.int .u64 0]])∧StIs w' F base v' all S∧w.grownBy w' none:=by
 obtain ⟨cs,rfl,hs0,hs1,hs00,hsl⟩:=h.cells
 have BX:=Ybf w cs (opC x)
 obtain ⟨W0,hW0⟩:∃ W0,((((w.alloc (.cells cs 36)).alloc (.cells (opC x) 41)).alloc (.cells sZ 36)).alloc (.cells rZ 46))=W0:=⟨_,rfl⟩
 rw [hW0] at BX
 have HST:=Lib.hid h
 have htold:=fun (V:World)=>Yc2 h 7 V
 have HTOLD:=Lib.hid htold
 clear h htold
 obtain ⟨d0,d1,d2,d3,d4,d5,d6,d7⟩:=Yal BX.op
 rw [hk] at d0
 have cl:=Yas BX.st (hsl k hk8)
 rw [hl] at cl
 have i3:¬ (k:Int)<0:=by omega
 have i4:¬ 7<(k:Int):=by omega
 unfold sZ rZ at hW0
 go_enter Tryz.func26,Tryz.ntmps26
 go_wp2_with (first
  | (refine Yad rfl 36 _ rfl _ 0 rfl BX.st cs (fun j v hj=>by simpa using hj) _ Tryz.underlying36 rfl (by rw [Yai,hs0]) ?_)
  | (go_at_call 48;(with_reducible refine (HTOLD.out _).mono ?_);rintro e w2 ⟨rfl,hg2⟩;replace BX:=BX.later hg2)
  | (refine Yae rfl 36 _ _ rfl _ 0 rfl rfl BX.rs (by rw [hs0];exact Nat.le_refl _) (by rw [Yai,hs0]) hs1 ?_;intro W1 p1 g1;rw [Yau _ _ hs0] at p1;obtain ⟨y0,y1,y2⟩:=Yaf (BX.res g1);obtain ⟨z0,z1,z2⟩:=Yak (BX.res g1)))
 obtain ⟨q1,q2,q3,q4⟩:=BX.done (HST.out.later BX.gr) p1 g1 (e:=7) (p:=0) (q:=0)
 refine bodyPost_ret (Yav rfl _ rfl rfl q1 q2 Tryz.underlying36 rfl (by rw [Yai,hs0]) Tryz.underlying46 rfl Ya0) rfl ?_
 exact ⟨_,rfl,q3,q4⟩
set_option maxHeartbeats 2000000 in
theorem rdo_attach (h:StIs w F base v all S) (hk8:k<8) (hk:x.kind=15) (hl:S.lv k=false) :
  Calls Tryz.prog 26 #[v,.int .i64 k,.agg (opC x)] w fun e w'=>∃ v',e=.returned (.tuple #[v',.agg #[.int .i64 0,.int .u64 0,.int .u64 0]])∧StIs w' F base v' all { S with lv:=oth S.lv k true }∧w.grownBy w' none:=by
 obtain ⟨cs,rfl,hs0,hs1,hs00,hsl⟩:=h.cells
 have BX:=Ybf w cs (opC x)
 obtain ⟨W0,hW0⟩:∃ W0,((((w.alloc (.cells cs 36)).alloc (.cells (opC x) 41)).alloc (.cells sZ 36)).alloc (.cells rZ 46))=W0:=⟨_,rfl⟩
 rw [hW0] at BX
 have HST:=Lib.hid h
 obtain ⟨d0,d1,d2,d3,d4,d5,d6,d7⟩:=Yal BX.op
 rw [hk] at d0
 have cl:=Yas BX.st (hsl k hk8)
 rw [hl] at cl
 have zl:=Ydw BX.st (13+k)
 have hst9:=((h.later BX.gr).past (Yac W0 w.heap.size (13+k) (.bool true)) BX.st Ybt).lives hk8 true
 have BX9:=BX.put (13+k) (.bool true)
 obtain ⟨W9,hW9⟩:∃ W9,W0.setCell ⟨w.heap.size,13+k,none⟩ (.bool true)=W9:=⟨_,rfl⟩
 obtain ⟨cs9,ecs9⟩:∃ q,cs.setIfInBounds (13+k) (.bool true)=q:=⟨_,rfl⟩
 rw [hW9,ecs9] at BX9
 rw [hW9,ecs9] at hst9
 obtain ⟨t0,t1,-,-⟩:=hst9.one
 clear ecs9
 have i3:¬ (k:Int)<0:=by omega
 have i4:¬ 7<(k:Int):=by omega
 clear h
 unfold sZ rZ at hW0
 go_enter Tryz.func26,Tryz.ntmps26
 go_wp2_with (first
  | (refine Yad rfl 36 _ rfl _ 0 rfl BX9.st cs9 (fun j v hj=>by simpa using hj) _ Tryz.underlying36 rfl (by rw [Yai,t0]) ?_)
  | (refine Yae rfl 36 _ _ rfl _ 0 rfl rfl BX9.rs (by rw [t0];exact Nat.le_refl _) (by rw [Yai,t0]) t1 ?_;intro W1 p1 g1;rw [Yau _ _ t0] at p1;obtain ⟨y0,y1,y2⟩:=Yaf (BX9.res g1);obtain ⟨z0,z1,z2⟩:=Yak (BX9.res g1)))
 obtain ⟨q1,q2,q3,q4⟩:=BX9.done hst9 p1 g1 (e:=0) (p:=0) (q:=0)
 refine bodyPost_ret (Yav rfl _ rfl rfl q1 q2 Tryz.underlying36 rfl (by rw [Yai,t0]) Tryz.underlying46 rfl Ya0) rfl ?_
 exact ⟨_,rfl,q3,q4⟩
set_option maxHeartbeats 2000000 in
theorem rdo_busy (h:StIs w F base v all S) (hk8:k<8) (hk:x.kind=14) (hl:S.lv k=true) (hL:S.L k≠[]) :
  Calls Tryz.prog 26 #[v,.int .i64 k,.agg (opC x)] w fun e w'=>∃ v',e=.returned (.tuple #[v',.agg #[.int .i64 11,.int .u64 0,.int .u64 0]])∧StIs w' F base v' all S∧w.grownBy w' none:=by
 obtain ⟨cs,rfl,hs0,hs1,hs00,hsl⟩:=h.cells
 have BX:=Ybf w cs (opC x)
 obtain ⟨W0,hW0⟩:∃ W0,((((w.alloc (.cells cs 36)).alloc (.cells (opC x) 41)).alloc (.cells sZ 36)).alloc (.cells rZ 46))=W0:=⟨_,rfl⟩
 rw [hW0] at BX
 have HST:=Lib.hid h
 have htold:=fun (V:World)=>Yc2 h 11 V
 have HTOLD:=Lib.hid htold
 obtain ⟨d0,d1,d2,d3,d4,d5,d6,d7⟩:=Yal BX.op
 rw [hk] at d0
 have cl:=Yas BX.st (hsl k hk8)
 rw [hl] at cl
 have i3:¬ (k:Int)<0:=by omega
 have i4:¬ 7<(k:Int):=by omega
 obtain ⟨ya,yn,yc,hyc,hyn,-⟩:=h.list hk8
 have cy:=Yas BX.st hyc
 have hpos:0<(yn:Int):=by
  have:=List.length_pos_iff.2 hL
  omega
 clear h htold hyn hL
 unfold sZ rZ at hW0
 go_enter Tryz.func26,Tryz.ntmps26
 go_wp2_with (first
  | (refine Yad rfl 36 _ rfl _ 0 rfl BX.st cs (fun j v hj=>by simpa using hj) _ Tryz.underlying36 rfl (by rw [Yai,hs0]) ?_)
  | (go_at_call 48;(with_reducible refine (HTOLD.out _).mono ?_);rintro e w2 ⟨rfl,hg2⟩;replace BX:=BX.later hg2)
  | (refine Yae rfl 36 _ _ rfl _ 0 rfl rfl BX.rs (by rw [hs0];exact Nat.le_refl _) (by rw [Yai,hs0]) hs1 ?_;intro W1 p1 g1;rw [Yau _ _ hs0] at p1;obtain ⟨y0,y1,y2⟩:=Yaf (BX.res g1);obtain ⟨z0,z1,z2⟩:=Yak (BX.res g1)))
 obtain ⟨q1,q2,q3,q4⟩:=BX.done (HST.out.later BX.gr) p1 g1 (e:=11) (p:=0) (q:=0)
 refine bodyPost_ret (Yav rfl _ rfl rfl q1 q2 Tryz.underlying36 rfl (by rw [Yai,hs0]) Tryz.underlying46 rfl Ya0) rfl ?_
 exact ⟨_,rfl,q3,q4⟩
set_option maxHeartbeats 2000000 in
theorem rdo_detach (h:StIs w F base v all S) (hk8:k<8) (hk:x.kind=14) (hl:S.lv k=true) (hL:S.L k=[]) :
  Calls Tryz.prog 26 #[v,.int .i64 k,.agg (opC x)] w fun e w'=>∃ v',e=.returned (.tuple #[v',.agg #[.int .i64 0,.int .u64 0,.int .u64 0]])∧StIs w' F base v' all { S with lv:=oth S.lv k false }∧w.grownBy w' none:=by
 obtain ⟨cs,rfl,hs0,hs1,hs00,hsl⟩:=h.cells
 have BX:=Ybf w cs (opC x)
 obtain ⟨W0,hW0⟩:∃ W0,((((w.alloc (.cells cs 36)).alloc (.cells (opC x) 41)).alloc (.cells sZ 36)).alloc (.cells rZ 46))=W0:=⟨_,rfl⟩
 rw [hW0] at BX
 have HST:=Lib.hid h
 obtain ⟨d0,d1,d2,d3,d4,d5,d6,d7⟩:=Yal BX.op
 rw [hk] at d0
 have cl:=Yas BX.st (hsl k hk8)
 rw [hl] at cl
 have i3:¬ (k:Int)<0:=by omega
 have i4:¬ 7<(k:Int):=by omega
 obtain ⟨ya,yn,yc,hyc,hyn,-⟩:=h.list hk8
 have cy:=Yas BX.st hyc
 have hyz:yn=0:=by rw [hyn,hL];rfl
 subst hyz
 have zl:=Ydw BX.st (13+k)
 have hst9:=((h.later BX.gr).past (Yac W0 w.heap.size (13+k) (.bool false)) BX.st Ybt).lives hk8 false
 have BX9:=BX.put (13+k) (.bool false)
 obtain ⟨W9,hW9⟩:∃ W9,W0.setCell ⟨w.heap.size,13+k,none⟩ (.bool false)=W9:=⟨_,rfl⟩
 obtain ⟨cs9,ecs9⟩:∃ q,cs.setIfInBounds (13+k) (.bool false)=q:=⟨_,rfl⟩
 rw [hW9,ecs9] at BX9
 rw [hW9,ecs9] at hst9
 obtain ⟨t0,t1,-,-⟩:=hst9.one
 clear ecs9
 clear h hyn hL
 unfold sZ rZ at hW0
 go_enter Tryz.func26,Tryz.ntmps26
 go_wp2_with (first
  | (refine Yad rfl 36 _ rfl _ 0 rfl BX9.st cs9 (fun j v hj=>by simpa using hj) _ Tryz.underlying36 rfl (by rw [Yai,t0]) ?_)
  | (refine Yae rfl 36 _ _ rfl _ 0 rfl rfl BX9.rs (by rw [t0];exact Nat.le_refl _) (by rw [Yai,t0]) t1 ?_;intro W1 p1 g1;rw [Yau _ _ t0] at p1;obtain ⟨y0,y1,y2⟩:=Yaf (BX9.res g1);obtain ⟨z0,z1,z2⟩:=Yak (BX9.res g1)))
 obtain ⟨q1,q2,q3,q4⟩:=BX9.done hst9 p1 g1 (e:=0) (p:=0) (q:=0)
 refine bodyPost_ret (Yav rfl _ rfl rfl q1 q2 Tryz.underlying36 rfl (by rw [Yai,t0]) Tryz.underlying46 rfl Ya0) rfl ?_
 exact ⟨_,rfl,q3,q4⟩
set_option maxHeartbeats 2000000 in
theorem rdo_alloc (h:StIs w F base v all S) (hF:Fine 64 S.E S.bs S.L) (hds:S.ds.length≤1000000) (hFb:∀ g,F g→g<w.heap.size) (hbw:base≤w.heap.size) (hx:OpOk x) (hk8:k<8) (hk:x.kind=1) (hl:S.lv k=true) :
  Calls Tryz.prog 26 #[v,.int .i64 k,.agg (opC x)] w fun e w'=>∃ v',e=.returned (.tuple #[v',.agg #[.int .i64 (Yax S.bs x.n 16:Nat),.int .u64 (mtP S.bs x.n 16:Nat),.int .u64 0]])∧StIs w' F base v' all (mTk S (k+1) x.n 16)∧w.grownBy w' none:=by
 obtain ⟨cs,rfl,hs0,hs1,hs00,hsl⟩:=h.cells
 have BX:=Ybf w cs (opC x)
 obtain ⟨W0,hW0⟩:∃ W0,((((w.alloc (.cells cs 36)).alloc (.cells (opC x) 41)).alloc (.cells sZ 36)).alloc (.cells rZ 46))=W0:=⟨_,rfl⟩
 rw [hW0] at BX
 have HST:=Lib.hid h
 obtain ⟨d0,d1,d2,d3,d4,d5,d6,d7⟩:=Yal BX.op
 rw [hk] at d0
 have cl:=Yas BX.st (hsl k hk8)
 rw [hl] at cl
 have i3:¬ (k:Int)<0:=by omega
 have i4:¬ 7<(k:Int):=by omega
 have hcall:=fun (V:World) (hg:w.grownBy V none)=>rtake14 (h.later hg) hF (by decide) hds (fun g k=>Nat.lt_of_lt_of_le (hFb g k) hg.size) (Nat.le_trans hbw hg.size) (k+1) x.n 16 (by omega) hx.n (by decide)
 have hk1:((k+1:Nat):Int)=(k:Int)+1:=by omega
 obtain ⟨S5,eS5⟩:∃ q,mTk S (k+1) x.n 16=q:=⟨_,rfl⟩
 obtain ⟨er,eer⟩:∃ q,Yax S.bs x.n 16=q:=⟨_,rfl⟩
 obtain ⟨rp,erp⟩:∃ q,mtP S.bs x.n 16=q:=⟨_,rfl⟩
 simp only [eS5,eer,erp,hk1] at hcall
 rw [eS5,eer,erp]
 replace hcall:∀ V:World,w.grownBy V none→Calls Tryz.prog 49 #[.agg cs,.int .i64 ((k:Int)+1),.int .u64 x.n,.int .u64 16] V fun e w'=>∃ v',e=.returned (.tuple #[v',.agg #[.int .i64 (er:Nat),.int .u64 (rp:Nat),.int .u64 0]])∧StIs w' F base v' all S5∧V.grownBy w' none:=hcall
 have HCALL:=Lib.hid hcall
 clear h hcall eS5 eer erp hk1 hF
 unfold sZ rZ at hW0
 go_enter Tryz.func26,Tryz.ntmps26
 go_wp2_with (first
  | (refine Yad rfl 36 _ rfl _ 0 rfl BX.st cs (fun j v hj=>by simpa using hj) _ Tryz.underlying36 rfl (by rw [Yai,hs0]) ?_)
  | (refine Yad rfl 41 _ rfl _ 0 rfl BX.op (opC x) (fun j v hj=>by simpa using hj) _ Tryz.underlying41 rfl Ybb ?_)
  | (go_at_call 49;(with_reducible refine (HCALL.out _ BX.gr).mono ?_);rintro e w5 ⟨v5,rfl,hst5,hg5⟩;replace BX:=BX.later hg5;obtain ⟨cs5,rfl,t0,t1,-,-⟩:=hst5.cells)
  | (refine Yae rfl 36 _ _ rfl _ 0 rfl rfl BX.rs (by rw [t0];exact Nat.le_refl _) (by rw [Yai,t0]) t1 ?_;intro W1 p1 g1;rw [Yau _ _ t0] at p1;obtain ⟨y0,y1,y2⟩:=Yaf (BX.res g1);obtain ⟨z0,z1,z2⟩:=Yak (BX.res g1)))
 obtain ⟨q1,q2,q3,q4⟩:=BX.done hst5 p1 g1 (e:=er) (p:=rp) (q:=0)
 refine bodyPost_ret (Yav rfl _ rfl rfl q1 q2 Tryz.underlying36 rfl (by rw [Yai,t0]) Tryz.underlying46 rfl Ya0) rfl ?_
 exact ⟨_,rfl,q3,q4⟩
set_option maxHeartbeats 2000000 in
theorem rdo_aligned (h:StIs w F base v all S) (hF:Fine 64 S.E S.bs S.L) (hds:S.ds.length≤1000000) (hFb:∀ g,F g→g<w.heap.size) (hbw:base≤w.heap.size) (hx:OpOk x) (hk8:k<8) (hk:x.kind=2) (hl:S.lv k=true) :
  Calls Tryz.prog 26 #[v,.int .i64 k,.agg (opC x)] w fun e w'=>∃ v',e=.returned (.tuple #[v',.agg #[.int .i64 (Yax S.bs x.n x.a:Nat),.int .u64 (mtP S.bs x.n x.a:Nat),.int .u64 0]])∧StIs w' F base v' all (mTk S (k+1) x.n x.a)∧w.grownBy w' none:=by
 obtain ⟨cs,rfl,hs0,hs1,hs00,hsl⟩:=h.cells
 have BX:=Ybf w cs (opC x)
 obtain ⟨W0,hW0⟩:∃ W0,((((w.alloc (.cells cs 36)).alloc (.cells (opC x) 41)).alloc (.cells sZ 36)).alloc (.cells rZ 46))=W0:=⟨_,rfl⟩
 rw [hW0] at BX
 have HST:=Lib.hid h
 obtain ⟨d0,d1,d2,d3,d4,d5,d6,d7⟩:=Yal BX.op
 rw [hk] at d0
 have cl:=Yas BX.st (hsl k hk8)
 rw [hl] at cl
 have i3:¬ (k:Int)<0:=by omega
 have i4:¬ 7<(k:Int):=by omega
 have hcall:=fun (V:World) (hg:w.grownBy V none)=>rtake14 (h.later hg) hF (by decide) hds (fun g k=>Nat.lt_of_lt_of_le (hFb g k) hg.size) (Nat.le_trans hbw hg.size) (k+1) x.n x.a (by omega) hx.n hx.a
 have hk1:((k+1:Nat):Int)=(k:Int)+1:=by omega
 obtain ⟨S5,eS5⟩:∃ q,mTk S (k+1) x.n x.a=q:=⟨_,rfl⟩
 obtain ⟨er,eer⟩:∃ q,Yax S.bs x.n x.a=q:=⟨_,rfl⟩
 obtain ⟨rp,erp⟩:∃ q,mtP S.bs x.n x.a=q:=⟨_,rfl⟩
 simp only [eS5,eer,erp,hk1] at hcall
 rw [eS5,eer,erp]
 have HCALL:=Lib.hid hcall
 clear h hcall eS5 eer erp hk1 hF
 unfold sZ rZ at hW0
 go_enter Tryz.func26,Tryz.ntmps26
 go_wp2_with (first
  | (refine Yad rfl 36 _ rfl _ 0 rfl BX.st cs (fun j v hj=>by simpa using hj) _ Tryz.underlying36 rfl (by rw [Yai,hs0]) ?_)
  | (refine Yad rfl 41 _ rfl _ 0 rfl BX.op (opC x) (fun j v hj=>by simpa using hj) _ Tryz.underlying41 rfl Ybb ?_)
  | (go_at_call 49;(with_reducible refine (HCALL.out _ BX.gr).mono ?_);rintro e w5 ⟨v5,rfl,hst5,hg5⟩;replace BX:=BX.later hg5;obtain ⟨cs5,rfl,t0,t1,-,-⟩:=hst5.cells)
  | (refine Yae rfl 36 _ _ rfl _ 0 rfl rfl BX.rs (by rw [t0];exact Nat.le_refl _) (by rw [Yai,t0]) t1 ?_;intro W1 p1 g1;rw [Yau _ _ t0] at p1;obtain ⟨y0,y1,y2⟩:=Yaf (BX.res g1);obtain ⟨z0,z1,z2⟩:=Yak (BX.res g1)))
 obtain ⟨q1,q2,q3,q4⟩:=BX.done hst5 p1 g1 (e:=er) (p:=rp) (q:=0)
 refine bodyPost_ret (Yav rfl _ rfl rfl q1 q2 Tryz.underlying36 rfl (by rw [Yai,t0]) Tryz.underlying46 rfl Ya0) rfl ?_
 exact ⟨_,rfl,q3,q4⟩
set_option maxHeartbeats 4000000 in
theorem rdo_name {e0:Nat} (h:StIs w F base v all S) (hM:HM K S) (hK:K≤1000000) (hFb:∀ g,F g→g<w.heap.size) (hbw:base≤w.heap.size) (hx:OpOk x) (hk8:k<8) (hl:S.lv k=true) (hb:nameK x.kind) (ha:Yb5 all S k x S' e0 p q) :
  Calls Tryz.prog 26 #[v,.int .i64 k,.agg (opC x)] w fun e w'=>∃ v',e=.returned (.tuple #[v',.agg #[.int .i64 (e0:Nat),.int .u64 (p:Nat),.int .u64 (q:Nat)]])∧StIs w' F base v' all S'∧w.grownBy w' none:=by
 obtain ⟨cs,rfl,hs0,hs1,hs00,hsl⟩:=h.cells
 have BX:=Ybf w cs (opC x)
 obtain ⟨W0,hW0⟩:∃ W0,((((w.alloc (.cells cs 36)).alloc (.cells (opC x) 41)).alloc (.cells sZ 36)).alloc (.cells rZ 46))=W0:=⟨_,rfl⟩
 rw [hW0] at BX
 have HST:=Lib.hid h
 obtain ⟨d0,d1,d2,d3,d4,d5,d6,d7⟩:=Yal BX.op
 have cl:=Yas BX.st (hsl k hk8)
 rw [hl] at cl
 have i3:¬ (k:Int)<0:=by omega
 have i4:¬ 7<(k:Int):=by omega
 have hcall:=fun (V:World) (hg:w.grownBy V none)=>rnam14 (h.later hg) hM hK (fun g k=>Nat.lt_of_lt_of_le (hFb g k) hg.size) (Nat.le_trans hbw hg.size) hx hb ha
 have HCALL:=Lib.hid hcall
 clear h hcall ha hM
 unfold nameK at hb
 rcases hb with hk|hk|hk
 ·rw [hk] at d0
  unfold sZ rZ at hW0
  go_enter Tryz.func26,Tryz.ntmps26
  go_wp2_with (first
   | (refine Yad rfl 36 _ rfl _ 0 rfl BX.st cs (fun j v hj=>by simpa using hj) _ Tryz.underlying36 rfl (by rw [Yai,hs0]) ?_)
   | (refine Yad rfl 41 _ rfl _ 0 rfl BX.op (opC x) (fun j v hj=>by simpa using hj) _ Tryz.underlying41 rfl Ybb ?_)
   | (go_at_call 51;(with_reducible refine (HCALL.out _ BX.gr).mono ?_);rintro e w5 ⟨v5,rfl,hst5,hg5⟩;replace BX:=BX.later hg5;obtain ⟨cs5,rfl,t0,t1,-,-⟩:=hst5.cells)
   | (refine Yae rfl 36 _ _ rfl _ 0 rfl rfl BX.rs (by rw [t0];exact Nat.le_refl _) (by rw [Yai,t0]) t1 ?_;intro W1 p1 g1;rw [Yau _ _ t0] at p1;obtain ⟨y0,y1,y2⟩:=Yaf (BX.res g1);obtain ⟨z0,z1,z2⟩:=Yak (BX.res g1)))
  obtain ⟨q1,q2,q3,q4⟩:=BX.done hst5 p1 g1 (e:=e0) (p:=p) (q:=q)
  refine bodyPost_ret (Yav rfl _ rfl rfl q1 q2 Tryz.underlying36 rfl (by rw [Yai,t0]) Tryz.underlying46 rfl Ya0) rfl ?_
  exact ⟨_,rfl,q3,q4⟩
 ·rw [hk] at d0
  unfold sZ rZ at hW0
  go_enter Tryz.func26,Tryz.ntmps26
  go_wp2_with (first
   | (refine Yad rfl 36 _ rfl _ 0 rfl BX.st cs (fun j v hj=>by simpa using hj) _ Tryz.underlying36 rfl (by rw [Yai,hs0]) ?_)
   | (refine Yad rfl 41 _ rfl _ 0 rfl BX.op (opC x) (fun j v hj=>by simpa using hj) _ Tryz.underlying41 rfl Ybb ?_)
   | (go_at_call 51;(with_reducible refine (HCALL.out _ BX.gr).mono ?_);rintro e w5 ⟨v5,rfl,hst5,hg5⟩;replace BX:=BX.later hg5;obtain ⟨cs5,rfl,t0,t1,-,-⟩:=hst5.cells)
   | (refine Yae rfl 36 _ _ rfl _ 0 rfl rfl BX.rs (by rw [t0];exact Nat.le_refl _) (by rw [Yai,t0]) t1 ?_;intro W1 p1 g1;rw [Yau _ _ t0] at p1;obtain ⟨y0,y1,y2⟩:=Yaf (BX.res g1);obtain ⟨z0,z1,z2⟩:=Yak (BX.res g1)))
  obtain ⟨q1,q2,q3,q4⟩:=BX.done hst5 p1 g1 (e:=e0) (p:=p) (q:=q)
  refine bodyPost_ret (Yav rfl _ rfl rfl q1 q2 Tryz.underlying36 rfl (by rw [Yai,t0]) Tryz.underlying46 rfl Ya0) rfl ?_
  exact ⟨_,rfl,q3,q4⟩
 ·rw [hk] at d0
  unfold sZ rZ at hW0
  go_enter Tryz.func26,Tryz.ntmps26
  go_wp2_with (first
   | (refine Yad rfl 36 _ rfl _ 0 rfl BX.st cs (fun j v hj=>by simpa using hj) _ Tryz.underlying36 rfl (by rw [Yai,hs0]) ?_)
   | (refine Yad rfl 41 _ rfl _ 0 rfl BX.op (opC x) (fun j v hj=>by simpa using hj) _ Tryz.underlying41 rfl Ybb ?_)
   | (go_at_call 51;(with_reducible refine (HCALL.out _ BX.gr).mono ?_);rintro e w5 ⟨v5,rfl,hst5,hg5⟩;replace BX:=BX.later hg5;obtain ⟨cs5,rfl,t0,t1,-,-⟩:=hst5.cells)
   | (refine Yae rfl 36 _ _ rfl _ 0 rfl rfl BX.rs (by rw [t0];exact Nat.le_refl _) (by rw [Yai,t0]) t1 ?_;intro W1 p1 g1;rw [Yau _ _ t0] at p1;obtain ⟨y0,y1,y2⟩:=Yaf (BX.res g1);obtain ⟨z0,z1,z2⟩:=Yak (BX.res g1)))
  obtain ⟨q1,q2,q3,q4⟩:=BX.done hst5 p1 g1 (e:=e0) (p:=p) (q:=q)
  refine bodyPost_ret (Yav rfl _ rfl rfl q1 q2 Tryz.underlying36 rfl (by rw [Yai,t0]) Tryz.underlying46 rfl Ya0) rfl ?_
  exact ⟨_,rfl,q3,q4⟩
set_option maxHeartbeats 8000000 in
theorem rdo_block {e0:Nat} (h:StIs w F base v all S) (hM:HM K S) (hK:K≤1000000) (hFb:∀ g,F g→g<w.heap.size) (hbw:base≤w.heap.size) (hx:OpOk x) (hk8:k<8) (hl:S.lv k=true) (hb:blkK x.kind) (ha:Yb5 all S k x S' e0 p q) :
  Calls Tryz.prog 26 #[v,.int .i64 k,.agg (opC x)] w fun e w'=>∃ v',e=.returned (.tuple #[v',.agg #[.int .i64 (e0:Nat),.int .u64 (p:Nat),.int .u64 (q:Nat)]])∧StIs w' F base v' all S'∧w.grownBy w' none:=by
 obtain ⟨cs,rfl,hs0,hs1,hs00,hsl⟩:=h.cells
 have BX:=Ybf w cs (opC x)
 obtain ⟨W0,hW0⟩:∃ W0,((((w.alloc (.cells cs 36)).alloc (.cells (opC x) 41)).alloc (.cells sZ 36)).alloc (.cells rZ 46))=W0:=⟨_,rfl⟩
 rw [hW0] at BX
 have HST:=Lib.hid h
 obtain ⟨d0,d1,d2,d3,d4,d5,d6,d7⟩:=Yal BX.op
 have cl:=Yas BX.st (hsl k hk8)
 rw [hl] at cl
 have i3:¬ (k:Int)<0:=by omega
 have i4:¬ 7<(k:Int):=by omega
 have hcall:=fun (V:World) (hg:w.grownBy V none)=>rblk14 (h.later hg) hM hK (fun g k=>Nat.lt_of_lt_of_le (hFb g k) hg.size) (Nat.le_trans hbw hg.size) hk8 hx hb ha
 have HCALL:=Lib.hid hcall
 clear h hcall ha hM
 have i1:¬ x.kind<1:=by unfold blkK at hb;omega
 have i2:¬ 15<x.kind:=by unfold blkK at hb;omega
 have hne:∀ n:Int,n=15∨n=14∨n=1∨n=2∨n=3∨n=8∨n=9∨n=10∨n=13→¬ x.kind=n∧(x.kind == n)=false:=fun n hn=>by
  have:¬ x.kind=n:=by unfold blkK at hb;omega
  exact ⟨this,by simpa using this⟩
 obtain ⟨j15,l15⟩:=hne 15 (by decide)
 obtain ⟨j14,l14⟩:=hne 14 (by decide)
 obtain ⟨j1,l1⟩:=hne 1 (by decide)
 obtain ⟨j2,l2⟩:=hne 2 (by decide)
 obtain ⟨j3,l3⟩:=hne 3 (by decide)
 obtain ⟨j8,l8⟩:=hne 8 (by decide)
 obtain ⟨j9,l9⟩:=hne 9 (by decide)
 obtain ⟨j10,l10⟩:=hne 10 (by decide)
 obtain ⟨j13,l13⟩:=hne 13 (by decide)
 clear hne hb
 unfold sZ rZ at hW0
 go_enter Tryz.func26,Tryz.ntmps26
 go_wp2_with (first
  | (refine Yad rfl 36 _ rfl _ 0 rfl BX.st cs (fun j v hj=>by simpa using hj) _ Tryz.underlying36 rfl (by rw [Yai,hs0]) ?_)
  | (refine Yad rfl 41 _ rfl _ 0 rfl BX.op (opC x) (fun j v hj=>by simpa using hj) _ Tryz.underlying41 rfl Ybb ?_)
  | (go_at_call 53;(with_reducible refine (HCALL.out _ BX.gr).mono ?_);rintro e w5 ⟨v5,rfl,hst5,hg5⟩;replace BX:=BX.later hg5;obtain ⟨cs5,rfl,t0,t1,-,-⟩:=hst5.cells)
  | (refine Yae rfl 36 _ _ rfl _ 0 rfl rfl BX.rs (by rw [t0];exact Nat.le_refl _) (by rw [Yai,t0]) t1 ?_;intro W1 p1 g1;rw [Yau _ _ t0] at p1;obtain ⟨y0,y1,y2⟩:=Yaf (BX.res g1);obtain ⟨z0,z1,z2⟩:=Yak (BX.res g1)))
 obtain ⟨q1,q2,q3,q4⟩:=BX.done hst5 p1 g1 (e:=e0) (p:=p) (q:=q)
 refine bodyPost_ret (Yav rfl _ rfl rfl q1 q2 Tryz.underlying36 rfl (by rw [Yai,t0]) Tryz.underlying46 rfl Ya0) rfl ?_
 exact ⟨_,rfl,q3,q4⟩
end
end
section
section
variable {w w' W:World} {F:Nat→Prop} {base all K c i:Nat} {v:Value} {S S':MS} {e p q k:Nat} {x:OpM}
set_option maxHeartbeats 2000000 in
theorem rdo_callocNo (h:StIs w F base v all S) (hx:OpOk x) (hk8:k<8) (hk:x.kind=3) (hl:S.lv k=true) (hbig:18446744073709551616≤x.n*x.a) :
  Calls Tryz.prog 26 #[v,.int .i64 k,.agg (opC x)] w fun e w'=>∃ v',e=.returned (.tuple #[v',.agg #[.int .i64 2,.int .u64 0,.int .u64 0]])∧StIs w' F base v' all S∧w.grownBy w' none:=by
 obtain ⟨cs,rfl,hs0,hs1,hs00,hsl⟩:=h.cells
 have BX:=Ybf w cs (opC x)
 obtain ⟨W0,hW0⟩:∃ W0,((((w.alloc (.cells cs 36)).alloc (.cells (opC x) 41)).alloc (.cells sZ 36)).alloc (.cells rZ 46))=W0:=⟨_,rfl⟩
 rw [hW0] at BX
 have HST:=Lib.hid h
 have htold:=fun (V:World)=>Yc2 h 2 V
 have HTOLD:=Lib.hid htold
 obtain ⟨d0,d1,d2,d3,d4,d5,d6,d7⟩:=Yal BX.op
 rw [hk] at d0
 have cl:=Yas BX.st (hsl k hk8)
 rw [hl] at cl
 have i3:¬ (k:Int)<0:=by omega
 have i4:¬ 7<(k:Int):=by omega
 have hmul:=fun V=>rmul_high x.n x.a hx.n hx.a hbig V
 have HMUL:=Lib.hid hmul
 clear h htold hmul hbig
 unfold sZ rZ at hW0
 go_enter Tryz.func26,Tryz.ntmps26
 go_wp2_with (first
  | (refine Yad rfl 36 _ rfl _ 0 rfl BX.st cs (fun j v hj=>by simpa using hj) _ Tryz.underlying36 rfl (by rw [Yai,hs0]) ?_)
  | (refine Yad rfl 41 _ rfl _ 0 rfl BX.op (opC x) (fun j v hj=>by simpa using hj) _ Tryz.underlying41 rfl Ybb ?_)
  | (go_at_call 50;(with_reducible refine (HMUL.out _).mono ?_);rintro e w4 ⟨rfl,rfl⟩)
  | (go_at_call 48;(with_reducible refine (HTOLD.out _).mono ?_);rintro e w2 ⟨rfl,hg2⟩;replace BX:=BX.later hg2)
  | (refine Yae rfl 36 _ _ rfl _ 0 rfl rfl BX.rs (by rw [hs0];exact Nat.le_refl _) (by rw [Yai,hs0]) hs1 ?_;intro W1 p1 g1;rw [Yau _ _ hs0] at p1;obtain ⟨y0,y1,y2⟩:=Yaf (BX.res g1);obtain ⟨z0,z1,z2⟩:=Yak (BX.res g1)))
 obtain ⟨q1,q2,q3,q4⟩:=BX.done (HST.out.later BX.gr) p1 g1 (e:=2) (p:=0) (q:=0)
 refine bodyPost_ret (Yav rfl _ rfl rfl q1 q2 Tryz.underlying36 rfl (by rw [Yai,hs0]) Tryz.underlying46 rfl Ya0) rfl ?_
 exact ⟨_,rfl,q3,q4⟩
set_option maxHeartbeats 2000000 in
theorem rdo_calloc (h:StIs w F base v all S) (hF:Fine 64 S.E S.bs S.L) (hds:S.ds.length≤1000000) (hFb:∀ g,F g→g<w.heap.size) (hbw:base≤w.heap.size) (hx:OpOk x) (hk8:k<8) (hk:x.kind=3) (hl:S.lv k=true) (hlt:x.n*x.a<18446744073709551616) :
  Calls Tryz.prog 26 #[v,.int .i64 k,.agg (opC x)] w fun e w'=>∃ v',e=.returned (.tuple #[v',.agg #[.int .i64 (Yax S.bs (x.n*x.a) 16:Nat),.int .u64 (mtP S.bs (x.n*x.a) 16:Nat),.int .u64 0]])∧StIs w' F base v' all (mTk S (k+1) (x.n*x.a) 16)∧w.grownBy w' none:=by
 obtain ⟨cs,rfl,hs0,hs1,hs00,hsl⟩:=h.cells
 have BX:=Ybf w cs (opC x)
 obtain ⟨W0,hW0⟩:∃ W0,((((w.alloc (.cells cs 36)).alloc (.cells (opC x) 41)).alloc (.cells sZ 36)).alloc (.cells rZ 46))=W0:=⟨_,rfl⟩
 rw [hW0] at BX
 have HST:=Lib.hid h
 obtain ⟨d0,d1,d2,d3,d4,d5,d6,d7⟩:=Yal BX.op
 rw [hk] at d0
 have cl:=Yas BX.st (hsl k hk8)
 rw [hl] at cl
 have i3:¬ (k:Int)<0:=by omega
 have i4:¬ 7<(k:Int):=by omega
 obtain ⟨t,et⟩:∃ t,t=x.n*x.a:=⟨_,rfl⟩
 rw [← et] at hlt ⊢
 have hmul:=fun V=>rmul_low x.n x.a t hx.n hx.a et hlt V
 have hcall:=fun (V:World) (hg:w.grownBy V none)=>rtake14 (h.later hg) hF (by decide) hds (fun g k=>Nat.lt_of_lt_of_le (hFb g k) hg.size) (Nat.le_trans hbw hg.size) (k+1) t 16 (by omega) hlt (by decide)
 have hk1:((k+1:Nat):Int)=(k:Int)+1:=by omega
 obtain ⟨S5,eS5⟩:∃ q,mTk S (k+1) t 16=q:=⟨_,rfl⟩
 obtain ⟨er,eer⟩:∃ q,Yax S.bs t 16=q:=⟨_,rfl⟩
 obtain ⟨rp,erp⟩:∃ q,mtP S.bs t 16=q:=⟨_,rfl⟩
 simp only [eS5,eer,erp,hk1] at hcall
 rw [eS5,eer,erp]
 replace hcall:∀ V:World,w.grownBy V none→Calls Tryz.prog 49 #[.agg cs,.int .i64 ((k:Int)+1),.int .u64 t,.int .u64 16] V fun e w'=>∃ v',e=.returned (.tuple #[v',.agg #[.int .i64 (er:Nat),.int .u64 (rp:Nat),.int .u64 0]])∧StIs w' F base v' all S5∧V.grownBy w' none:=hcall
 have HCALL:=Lib.hid hcall
 have HMUL:=Lib.hid hmul
 clear h hcall hmul eS5 eer erp hk1 hF et hlt
 unfold sZ rZ at hW0
 go_enter Tryz.func26,Tryz.ntmps26
 go_wp2_with (first
  | (refine Yad rfl 36 _ rfl _ 0 rfl BX.st cs (fun j v hj=>by simpa using hj) _ Tryz.underlying36 rfl (by rw [Yai,hs0]) ?_)
  | (refine Yad rfl 41 _ rfl _ 0 rfl BX.op (opC x) (fun j v hj=>by simpa using hj) _ Tryz.underlying41 rfl Ybb ?_)
  | (go_at_call 50;(with_reducible refine (HMUL.out _).mono ?_);rintro e w4 ⟨rfl,rfl⟩)
  | (go_at_call 49;(with_reducible refine (HCALL.out _ BX.gr).mono ?_);rintro e w5 ⟨v5,rfl,hst5,hg5⟩;replace BX:=BX.later hg5;obtain ⟨cs5,rfl,t0,t1,-,-⟩:=hst5.cells)
  | (refine Yae rfl 36 _ _ rfl _ 0 rfl rfl BX.rs (by rw [t0];exact Nat.le_refl _) (by rw [Yai,t0]) t1 ?_;intro W1 p1 g1;rw [Yau _ _ t0] at p1;obtain ⟨y0,y1,y2⟩:=Yaf (BX.res g1);obtain ⟨z0,z1,z2⟩:=Yak (BX.res g1)))
 obtain ⟨q1,q2,q3,q4⟩:=BX.done hst5 p1 g1 (e:=er) (p:=rp) (q:=0)
 refine bodyPost_ret (Yav rfl _ rfl rfl q1 q2 Tryz.underlying36 rfl (by rw [Yai,t0]) Tryz.underlying46 rfl Ya0) rfl ?_
 exact ⟨_,rfl,q3,q4⟩
set_option maxHeartbeats 4000000 in
theorem rdo_grow {er E':Nat} {bs':List Blk} (h:StIs w F base v all S) (hx:OpOk x) (hk8:k<8) (hk:x.kind=13) (hl:S.lv k=true)
  (hgrow:∀ (V:World) (hs:Array Value),w.grownBy V none→HvF V F base (.agg hs) S.E S.bs S.L→Calls Tryz.prog 52 #[.agg hs,.int .u64 x.n,.int .u64 all] V fun e w'=>∃ v',e=.returned (.tuple #[v',.int .i64 (er:Nat)])∧HvF w' F base v' E' bs' S.L∧V.grownBy w' none) :
  Calls Tryz.prog 26 #[v,.int .i64 k,.agg (opC x)] w fun e w'=>∃ v',e=.returned (.tuple #[v',.agg #[.int .i64 (er:Nat),.int .u64 0,.int .u64 0]])∧StIs w' F base v' all { S with E:=E',bs:=bs' }∧w.grownBy w' none:=by
 obtain ⟨cs,rfl,hs0,hs1,hs00,hsl⟩:=h.cells
 have BX:=Ybf w cs (opC x)
 obtain ⟨W0,hW0⟩:∃ W0,((((w.alloc (.cells cs 36)).alloc (.cells (opC x) 41)).alloc (.cells sZ 36)).alloc (.cells rZ 46))=W0:=⟨_,rfl⟩
 rw [hW0] at BX
 have HST:=Lib.hid h
 obtain ⟨d0,d1,d2,d3,d4,d5,d6,d7⟩:=Yal BX.op
 rw [hk] at d0
 have cl:=Yas BX.st (hsl k hk8)
 rw [hl] at cl
 have i3:¬ (k:Int)<0:=by omega
 have i4:¬ 7<(k:Int):=by omega
 have ca:=Yas BX.st hs00
 obtain ⟨hs,hhz,hin,hv0,hmk⟩:=h.heap
 have hg0:=fun (V:World) (hg:w.grownBy V none)=>hgrow V hs hg (hv0.later hg)
 have HGROW:=Lib.hid hg0
 have HIN:=Lib.hid hin
 have HMK:=Lib.hid hmk
 clear h hgrow hg0 hin hmk hv0
 unfold sZ rZ at hW0
 go_enter Tryz.func26,Tryz.ntmps26
 go_wp2_with (first
  | (refine Yad rfl 36 _ rfl _ 0 rfl BX.st cs (fun j v hj=>by simpa using hj) _ Tryz.underlying36 rfl (by rw [Yai,hs0]) ?_)
  | (refine Yad rfl 41 _ rfl _ 0 rfl BX.op (opC x) (fun j v hj=>by simpa using hj) _ Tryz.underlying41 rfl Ybb ?_)
  | (refine Yad rfl 31 _ rfl _ 1 rfl BX.st hs HIN.out _ Tryz.underlying31 rfl (by rw [Ybc,hhz]) ?_)
  | (go_at_call 52;(with_reducible refine (HGROW.out _ BX.gr).mono ?_);rintro e w5 ⟨v5,rfl,hv5,hg5⟩;replace BX:=BX.later hg5;obtain ⟨hs5,rfl,n0,n1,hst5⟩:=HMK.out w5 _ _ _ _ BX.gr hv5;have b5:=Yab w5 (.cells #[.int .u64 0,.slice none 0 0,.slice none 0 0,.slice none 0 0,.slice none 0 0,.slice none 0 0,.slice none 0 0,.slice none 0 0,.slice none 0 0,.slice none 0 0] 31);have g5:=World.grownBy_alloc w5 (.cells #[.int .u64 0,.slice none 0 0,.slice none 0 0,.slice none 0 0,.slice none 0 0,.slice none 0 0,.slice none 0 0,.slice none 0 0,.slice none 0 0,.slice none 0 0] 31) none)
  | (refine Yae rfl 31 _ _ rfl _ 0 rfl rfl b5 (by rw [n0];exact Nat.le_refl _) (by rw [Ybc,n0]) n1 ?_;intro W6 p5 g6;rw [Yau _ _ n0] at p5;have G6:=Yap (Yaa (Yam g5 _) g6) (Nat.le_refl _);replace BX:=BX.later G6;replace hst5:=hst5.later G6)
  | (refine Yad rfl 31 _ rfl _ 0 rfl p5 hs5 (fun j v hj=>by simpa using hj) _ Tryz.underlying31 rfl (by rw [Ybc,n0]) ?_)
  | (refine Yae rfl 31 _ _ rfl _ 1 rfl rfl BX.st (by rw [n0,hs0];omega) (by rw [Ybc,n0]) n1 ?_;intro W7 p7 g7;have hst7:=hst5.past g7 BX.st Ybt;have BX7:=BX.over p7 g7;obtain ⟨cs7,ecs7⟩:∃ q,ovr cs 1 hs5.toList=q:=⟨_,rfl⟩;rw [ecs7] at BX7 hst7;obtain ⟨u0,u1,-,-⟩:=hst7.one;have htold:=fun (V:World)=>Yc2 hst7 er V;have HTOLD:=Lib.hid htold;clear htold ecs7)
  | (refine Yad rfl 36 _ rfl _ 0 rfl BX7.st cs7 (fun j v hj=>by simpa using hj) _ Tryz.underlying36 rfl (by rw [Yai,u0]) ?_)
  | (go_at_call 48;(with_reducible refine (HTOLD.out _).mono ?_);rintro e w8 ⟨rfl,hg8⟩;have BX8:=BX7.later hg8;have hst8:=hst7.later hg8)
  | (refine Yae rfl 36 _ _ rfl _ 0 rfl rfl BX8.rs (by rw [u0];exact Nat.le_refl _) (by rw [Yai,u0]) u1 ?_;intro W1 p1 g1;rw [Yau _ _ u0] at p1;obtain ⟨y0,y1,y2⟩:=Yaf (BX8.res g1);obtain ⟨z0,z1,z2⟩:=Yak (BX8.res g1)))
 obtain ⟨q1,q2,q3,q4⟩:=BX8.done hst8 p1 g1 (e:=er) (p:=0) (q:=0)
 refine bodyPost_ret (Yav rfl _ rfl rfl q1 q2 Tryz.underlying36 rfl (by rw [Yai,u0]) Tryz.underlying46 rfl Ya0) rfl ?_
 exact ⟨_,rfl,q3,q4⟩
end
end
section
section
variable {w w':World} {F:Nat→Prop} {base all K:Nat} {c:Int} {v:Value} {S S':MS} {x:OpM} {e p q:Nat}
theorem rstep14 (h:StIs w F base v all S) (hM:HM K S) (hK:K≤1000000) (hFb:∀ g,F g→g<w.heap.size) (hbw:base≤w.heap.size) (hx:OpOk x) (hall:all≤4800) (ha:Ybz all S c x S' e p q) :
  Calls Tryz.prog 26 #[v,.int .i64 c,.agg (opC x)] w (Tells14 w F base all S' e p q):=by
 have hF:=hM.hs.fine
 have hds:S.ds.length≤1000000:=Nat.le_trans hM.dn hK
 cases ha with
 | arg ha=>exact rdo_arg h ha
 | client hc h8 h1 h2 hl=>subst hc;exact rdo_client h h8 h1 h2 hl
 | there hc h8 hk hl=>subst hc;exact rdo_there h h8 hk hl
 | attach hc h8 hk hl=>subst hc;exact rdo_attach h h8 hk hl
 | @act k _ _ _ _ hc h8 h1 h2 hl ha =>
  subst hc
  by_cases hb:blkK x.kind
  ·exact rdo_block h hM hK hFb hbw hx h8 hl hb ha
  ·by_cases hn:nameK x.kind
   ·exact rdo_name h hM hK hFb hbw hx h8 hl hn ha
   ·cases ha with
    | busy hk hL=>exact rdo_busy h h8 hk hl hL
    | detach hk hL=>exact rdo_detach h h8 hk hl hL
    | alloc hk=>exact rdo_alloc h hF hds hFb hbw hx h8 hk hl
    | aligned hk=>exact rdo_aligned h hF hds hFb hbw hx h8 hk hl
    | callocNo hk hbig=>exact rdo_callocNo h hx h8 hk hl hbig
    | calloc hk hlt=>exact rdo_calloc h hF hds hFb hbw hx h8 hk hl hlt
    | growNo hk hne =>
     have hE:=hM.hs.q.top
     have:=rdo_grow (er:=grF all S.E x.n) (E':=S.E) (bs':=S.bs) h hx h8 hk hl fun V hs hg hv=>(rgrow12_not hv (by omega) x.n hx.n (by omega) hne).mono fun en w' ⟨h1,h2⟩=>⟨_,h1,hv.later h2,h2⟩
     exact this
    | grow hk hz =>
     have:=rdo_grow (er:=0) (E':=S.E+x.n) (bs':=grJ S.bs S.E x.n) h hx h8 hk hl fun V hs hg hv=>rgrow12_yes hv (by have:=hM.hs.few;omega) (fun k hk=>by
      have hb:S.bs.getD k default∈S.bs:=by rw [List.getD_eq_getElem?_getD,List.getElem?_eq_getElem hk];exact List.getElem_mem hk
      have h1:=hM.hs.q.mem hb
      have h2:=hM.hs.q.top
      unfold gS;omega) (Nat.le_trans hbw hg.size) x.n (by omega) hz
     exact this
    | bad hk=>exact absurd hk hb
    | reallocNo hk=>exact absurd (by unfold blkK;omega) hb
    | realloc hk=>exact absurd (by unfold blkK;omega) hb
    | freeNo hk=>exact absurd (by unfold blkK;omega) hb
    | free hk=>exact absurd (by unfold blkK;omega) hb
    | out hk=>exact absurd (by unfold blkK;omega) hb
    | read hk=>exact absurd (by unfold blkK;omega) hb
    | write hk=>exact absurd (by unfold blkK;omega) hb
    | publish hk=>exact absurd (by unfold blkK;omega) hb
    | giveArg hk=>exact absurd (by unfold blkK;omega) hb
    | giveNone hk=>exact absurd (by unfold blkK;omega) hb
    | give hk=>exact absurd (by unfold blkK;omega) hb
    | nameBad hk=>exact absurd hk hn
    | nameNone hk=>exact absurd (by unfold nameK;omega) hn
    | find hk=>exact absurd (by unfold nameK;omega) hn
    | destroy hk=>exact absurd (by unfold nameK;omega) hn
    | consThere hk=>exact absurd (by unfold nameK;omega) hn
    | consFull hk=>exact absurd (by unfold nameK;omega) hn
    | consNo hk=>exact absurd (by unfold nameK;omega) hn
    | cons hk=>exact absurd (by unfold nameK;omega) hn
end
end
section
theorem rep_new (size:Nat):Rep [Ya9 3776 (size - 3776)] (newM size) :=
 ⟨rfl,fun x hx hu=>by rw [List.mem_singleton.1 hx] at hu;cases hu⟩
theorem hm_new {size:Nat} (h1:3824≤size) (h2:size≤4800) (h3:size % 16=0):HM 0 (newM size) where
 hs:=by
  refine ⟨⟨⟨rfl,?_,?_,?_⟩,h2,fun b hb=>?_,fun c hc=>⟨List.nodup_nil,fun x=>Iff.intro (fun h=>?_) (fun h=>?_)⟩⟩,trivial⟩
  ·show 0<size - 3776;omega
  ·show (size - 3776) % 16=0;omega
  ·show 3776+(size - 3776)=size;omega
  ·rw [List.mem_singleton.1 hb];exact freeB_ok (by omega)
  ·cases h
  ·obtain ⟨b,hb,_⟩:=h;cases hb
 dl:=fun b hb=>by cases hb
 dn:=Nat.le_refl _
 nn:=Nat.zero_le _
 no:=fun q hq=>by cases hq
 nk:=List.nodup_nil
 np:=List.nodup_nil
 nu:=fun q hq=>by cases hq
end
section
theorem OkT.lt {w:World} {g:Nat} (h:OkT w g):g<w.heap.size:=by
 rcases h with ⟨es,clock,h⟩|⟨c,t,fr,h,_⟩
 ·exact lt_of_block h
 ·exact lt_of_block h
structure Both (w:World) (F:Nat→Prop) (P base:Nat) (v:Value) (all K:Nat) (S:MS):Prop where
 ex:∃ l,Side w F P base v all l S.nm S.lv S∧Rep l S
 hm:HM K S
 bw:base≤w.heap.size
structure Half (w:World) (F:Nat→Prop) (P base:Nat) (v:Value) (all K:Nat) (S S':MS):Prop where
 ex:∃ l,Side w F P base v all l S'.nm S'.lv S∧Rep l S'
 hm:HM K S
 hm':HM (K+1) S'
 bw:base≤w.heap.size
section
variable {w w':World} {F:Nat→Prop} {P base all K:Nat} {v:Value} {S S':MS} {c:Int} {x:OpM} {e p q:Nat}
theorem Both.later (h:Both w F P base v all K S) (hg:w.grownBy w' none):Both w' F P base v all K S:=by
 obtain ⟨l,hs,hr⟩:=h.ex
 exact ⟨⟨l,hs.plain hg (hs.st.later hg),hr⟩,h.hm,Nat.le_trans h.bw hg.size⟩
theorem Half.later (h:Half w F P base v all K S S') (hg:w.grownBy w' none):Half w' F P base v all K S S':=by
 obtain ⟨l,hs,hr⟩:=h.ex
 exact ⟨⟨l,hs.plain hg (hs.st.later hg),hr⟩,h.hm,h.hm',Nat.le_trans h.bw hg.size⟩
theorem both_code (h:Both w F P base v all K S) (hx:OpOk x) (hall:all≤4800) (ha:Ybz all S c x S' e p q) :
  Calls Tryz.prog 13 #[.pointer (some ⟨P,0,none⟩),.int .i64 c,.agg (opC x)] w fun en w1=>en=.returned (.agg #[.int .i64 (e:Nat),.int .u64 (p:Nat),.int .u64 (q:Nat)])∧Ybo F w w1∧Half w1 (trimF w1 (growF F w w1)) P base v all K S S':=by
 obtain ⟨l,hs,hr⟩:=h.ex
 refine (mstep hs.md h.hm hr hx hall ha).mono ?_
 rintro en w1 ⟨rfl,l',hr',hR⟩
 exact ⟨rfl,hR.2,⟨⟨l',hs.code hR,hr'⟩,h.hm,ha.is h.hm hx hall,Nat.le_trans h.bw hR.2.size⟩⟩
theorem both_plain (h:Half w F P base v all K S S') (hK:K≤1000000) (hx:OpOk x) (hall:all≤4800) (ha:Ybz all S c x S' e p q) :
  Calls Tryz.prog 26 #[v,.int .i64 c,.agg (opC x)] w fun en w1=>∃ v',en=.returned (.tuple #[v',.agg #[.int .i64 (e:Nat),.int .u64 (p:Nat),.int .u64 (q:Nat)]])∧Both w1 F P base v' all (K+1) S'∧w.grownBy w1 none:=by
 obtain ⟨l,hs,hr⟩:=h.ex
 refine (rstep14 hs.st h.hm hK (fun g hg=>(hs.ok g hg).lt) h.bw hx hall ha).mono ?_
 rintro en w1 ⟨v',rfl,hs',hg⟩
 exact ⟨v',rfl,⟨⟨l,hs.plain hg hs',hr⟩,h.hm',Nat.le_trans h.bw hg.size⟩,hg⟩
theorem killM_rest (S:MS) (c:Nat):(killM S c).nm=S.nm∧(killM S c).lv=oth S.lv c false:=⟨(killL_rest (S.L c) S).1,rfl⟩
theorem both_kill {c:Nat} (h:Both w F P base v all K S) (hc:c<8) :
  Calls Tryz.prog 17 #[.pointer (some ⟨P,0,none⟩),.int .i64 c] w fun en w1=>en=.returned (.tuple #[])∧Ybo F w w1∧∃ l,Side w1 (trimF w1 (growF F w w1)) P base v all l (killM S c).nm (killM S c).lv S∧Rep l (killM S c)∧base≤w1.heap.size:=by
 obtain ⟨l,hs,hr⟩:=h.ex
 have hlen:l.length≤1000:=by
  have h1:=h.hm.hs.few
  rw [← hr.bs,List.length_map] at h1
  omega
 have hsz:∀ z∈l,z.b.s≤10000000:=fun z hz=>by
  have hzb:z.b∈S.bs:=by rw [← hr.bs];exact List.mem_map_of_mem hz
  obtain ⟨A,C,e⟩:=List.append_of_mem hzb
  have h1:=h.hm.hs.q.ch
  have h2:=h.hm.hs.q.top
  rw [e] at h1
  obtain ⟨-,-,-,h3,-⟩:=chain_amid h1
  have h4:=h3.le
  omega
 refine (mkill_ok hs.md hlen hsz hc).mono ?_
 rintro en w1 ⟨rfl,hR⟩
 refine ⟨rfl,hR.2,_,?_,hr.kill h.hm.hs hc,Nat.le_trans h.bw hR.2.size⟩
 rw [(killM_rest S c).1,(killM_rest S c).2]
 exact hs.code hR
theorem both_died {c:Nat} {l:List KB} (hs:Side w F P base v all l (killM S c).nm (killM S c).lv S) (hr:Rep l (killM S c)) (hM:HM K S) (hbw:base≤w.heap.size) (hK:K≤1000000) (hc:c<8) :
  Calls Tryz.prog 18 #[v,.int .i64 c] w fun en w1=>∃ v',en=.returned v'∧Both w1 F P base v' all K (killM S c)∧w.grownBy w1 none:=by
 refine (rkill14 hs.st hM hK (fun g hg=>(hs.ok g hg).lt) hbw hc).mono ?_
 rintro en w1 ⟨v',rfl,hs',hg⟩
 exact ⟨v',rfl,⟨⟨l,hs.plain hg hs',hr⟩,hM.kill hc,Nat.le_trans hbw hg.size⟩,hg⟩
theorem both_new {size:Nat} (md:Md w F P all [Ya9 3776 (size - 3776)] [] (fun _=>false)) (h1:3824≤size) (h2:size≤4800) (h3:size % 16=0) :
  Calls Tryz.prog 25 #[.int .u64 size,.int .u64 all] w fun en w1=>∃ v',en=.returned v'∧Both w1 (trimF w F) P w.heap.size v' all 0 (newM size)∧w.grownBy w1 none:=by
 refine (rnew14 (F:=trimF w F) (by omega) (by omega) all (fun g hg=>hg.2.lt)).mono ?_
 rintro en w1 ⟨v',rfl,hs,hg⟩
 exact ⟨v',rfl,⟨⟨_,⟨md.trim.later hg,hs,fun g hF=>hF.2.later hg⟩,rep_new size⟩,hm_new h1 h2 h3,hg.size⟩,hg⟩
end
end
end Go.Proofs.YtfhiljglfhekdaaGreat
