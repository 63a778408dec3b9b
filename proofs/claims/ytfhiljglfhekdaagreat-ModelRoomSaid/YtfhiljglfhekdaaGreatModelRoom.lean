/-
  There is no room just if no free block is as large as what is needed; the blocks' sizes are the heap, and no two free ones stand beside each other. The statement ModelRoom; no condition.
-/
import Derived.Test.YtfhiljglfhekdaaGreatKogH
import Derived.Test.YtfhiljglfhekdaaGreatLEnb
import Derived.Test.YtfhiljglfhekdaaGreatLZza
import Derived.Test.YtfhiljglfhekdaaGreatRows
import Derived.Lib.SmallJoins
import Derived.ProofKit
import Derived.OpenShut
import Derived.Carry
import Derived.Deep.RegionHeld3
import Derived.ChangeOld
namespace Go.Proofs.YtfhiljglfhekdaaGreat.modelRoom
open Go.ChangeShapes Go.WideShapes Go.ChangeAt Go.RowKit
open Go.ChangeMaps (open_string shut_string)
set_option linter.unusedVariables false
set_option linter.unusedSimpArgs false
set_option maxRecDepth 100000

def rmB (bs:List Blk) (N k:Nat):Bool:=(bs.take k).any fun b => !b.u && decide (N≤b.s)
def smB (bs:List Blk) (k:Nat):Nat:=((bs.take k).map Blk.s).sum
theorem take_at14 {bs:List Blk} {k:Nat} (hk:k<bs.length):bs.take (k+1)=bs.take k++[bs.getD k default]:=by
 rw [List.take_succ_eq_append_getElem hk,List.getD_eq_getElem?_getD,List.getElem?_eq_getElem hk];rfl
theorem rm_step {bs:List Blk} {N k:Nat} (hk:k<bs.length):rmB bs N (k+1)=(rmB bs N k || (!(bs.getD k default).u && decide (N≤(bs.getD k default).s))):=by
 unfold rmB;rw [take_at14 hk,List.any_append];simp
theorem sm_step {bs:List Blk} {k:Nat} (hk:k<bs.length):smB bs (k+1)=smB bs k+(bs.getD k default).s:=by
 unfold smB;rw [take_at14 hk,List.map_append,List.sum_append];simp
theorem sm_all {K:Nat} {S:MS} (hM:HM K S):smB S.bs S.bs.length=S.E - 3776:=by
 have:=hM.hs.q.ch.sum
 unfold smB;rw [List.take_length];omega
theorem sm_le {K:Nat} {S:MS} (hM:HM K S):∀ k,k≤S.bs.length→smB S.bs k≤4800
 | k,hk=>by
  have h1:∀ j,k+j≤S.bs.length→smB S.bs k≤smB S.bs (k+j):=fun j=>by
   induction j with
   | zero=>intro _;exact Nat.le_refl _
   | succ j ih=>intro h;have:=sm_step (bs:=S.bs) (k:=k+j) (by omega);have:=ih (by omega);rw [← Nat.add_assoc];omega
  have h2:=h1 (S.bs.length - k) (by omega)
  rw [show k+(S.bs.length - k)=S.bs.length by omega,sm_all hM] at h2
  have:=hM.hs.q.top
  omega
theorem rm_all {K n:Nat} {S:MS} (hM:HM K S) (hn:n≤18446744073709551560):(Yax S.bs n 16=0∧rmB S.bs (Yat n) S.bs.length=true)∨(Yax S.bs n 16=3∧rmB S.bs (Yat n) S.bs.length=false):=by
 unfold rmB
 rw [List.take_length]
 rcases fit_is hM hn with ⟨h1,b,hb,hu,hs⟩|⟨h1,h2⟩
 ·exact .inl ⟨h1,List.any_eq_true.2 ⟨b,hb,by rw [hu,decide_eq_true hs];rfl⟩⟩
 ·refine .inr ⟨h1,List.any_eq_false.2 fun b hb=>?_⟩
  cases hu:b.u with
  | true=>simp
  | false=>simp;have:=h2 b hb hu;omega
/-- so many bytes -/
def almM (n:Nat):OpM:=⟨1,n,0,0,0,0,0,⟨#[]⟩⟩
theorem alm_ok {n:Nat} (hn:n<18446744073709551616):OpOk (almM n):=⟨hn,show (0:Nat)<_ by decide,show (0:Nat)<_ by decide,show (0:Nat)<_ by decide,show (0:Nat)<_ by decide,Nat.zero_le _⟩
theorem alm_lit (n:Nat):opC (almM n)=#[.int .i64 1,.int .u64 (n:Nat),.int .u64 0,.int .u64 0,.int .u64 0,.int .u64 0,.int .i64 0,.string ⟨#[]⟩]:=by simp [opC,almM]
theorem att_any (S:MS):∃ S1 e,Ybz 4800 S 0 attM S1 e 0 0∧S1.bs=S.bs∧S1.lv 0=true:=by
 cases hl:S.lv 0 with
 | true=>exact ⟨S,7,.there (k:=0) rfl (by decide) rfl hl,rfl,hl⟩
 | false=>exact ⟨_,0,.attach (k:=0) rfl (by decide) rfl hl,rfl,by simp [oth]⟩
set_option maxHeartbeats 16000000 in
theorem core {w:World} {la:Option Addr} {c:Nat} {l:List Yc4} (hn:l.length≤maxLen) (ho:∀ q∈l,Yda q) (hp:Yco w la l) {n N:Nat} {fl:Bool} (hnb:n<18446744073709551616) (hneed:∀ V:World,Calls Tryz.prog 19 #[.int .u64 (n:Nat)] V fun e w'=>e=.returned (.tuple #[.int .u64 (N:Nat),.bool fl])∧V=w') (hN:(fl=true∧n≤18446744073709551560∧N=Yat n)∨(fl=false∧18446744073709551560<n)):Calls Tryz.prog 7 #[.slice la l.length c,.int .u64 (n:Nat)] w fun e w'=>e=.returned (.bool true)∧w.grownBy w' none:=by
 have HG0:Hid (w.grownBy w none):=Lib.hid (Yag _ _)
 have HND:=Lib.hid hneed
 have HNN:=Lib.hid hN
 clear hneed hN
 rcases Bool.eq_false_or_eq_true (fewL l) with hf|hf
 ·have h25:=(fewL_is hf).1
  go_enter Tryz.func7,Tryz.ntmps7
  go_wp2_with (first
   | (go_at_call 9;go_must ((with_reducible refine (Yc3 _).mono ?_);rintro en w1 ⟨rfl,hg1'⟩;have hg1:=Yaa HG0.out hg1';have hc1:=few14 (c:=c) (hp.later hg1) rfl hn;rw [hf] at hc1))
   | (go_at_call 10;go_must ((with_reducible refine hc1.mono ?_);rintro en w2 ⟨rfl,hw2⟩;subst w2;have hc2:=played14 (c:=c) (hp.later hg1) ho rfl h25))
   | (go_at_call 11;go_must ((with_reducible refine hc2.mono ?_);rintro en w3 ⟨P,base,K,S,cs,rfl,s0,s1,hK,hPl⟩;have z7:=Yab w3 (.cells sZ 36);have g7:=World.grownBy_alloc w3 (.cells sZ 36) none;obtain ⟨Z7,hZ7⟩:∃ Z,w3.alloc (.cells sZ 36)=Z:=⟨_,rfl⟩;rw [hZ7] at z7 g7;unfold sZ at hZ7;have hPz:=hPl.later g7;have l7:=hPl.gr.size))
   | (refine Yae rfl 36 _ _ rfl _ 0 rfl rfl z7 (by rw [s0];exact Nat.le_refl _) (by rw [Yai,s0]) s1 ?_;intro W4 p4 g4;rw [Yau _ _ s0] at p4;have hP4:=hPz.past g4 z7 l7 Ybt (by decide) (by decide);have G4:=Yaa hg1 hP4.gr;have hc5:=hP4.blocks)
   | (go_at_call 19;go_must ((with_reducible refine (HND.out _).mono ?_);rintro en w5 ⟨rfl,hw5⟩;subst w5))
   | (go_at_call 15;go_must ((with_reducible refine hc5.mono ?_);rintro en w6 ⟨g,gc,rfl,hB6,hg6⟩)))
  have hM:=hP4.hm
  have hcd:=(hP4.later hg6).cd
  obtain ⟨F4,hB4,-⟩:=hP4.ex
  obtain ⟨cs',ecs,-,-,hcE⟩:=hB4.cells
  injection ecs with ecs
  rw [← ecs] at hcE
  obtain ⟨S1,e1,ha1,hb1,hl1⟩:=att_any S
  have ha2:Ybz 4800 S1 0 (almM n) (mTk S1 1 n 16) (Yax S1.bs n 16) (mtP S1.bs n 16) 0:=.act (k:=0) rfl (by decide) (show (1:Int)≤1 by decide) (show (1:Int)<15 by decide) hl1 (.alloc rfl)
  rw [hb1] at ha2
  obtain ⟨e,he⟩:∃ e,Yax S.bs n 16=e:=⟨_,rfl⟩
  obtain ⟨p,hp'⟩:∃ p,mtP S.bs n 16=p:=⟨_,rfl⟩
  rw [he,hp'] at ha2
  have H1:Hid (∀ V,w6.grownBy V none→Calls Tryz.prog 13 #[.pointer (some ⟨P,0,none⟩),.int .i64 0,.agg #[.int .i64 15,.int .u64 0,.int .u64 0,.int .u64 0,.int .u64 0,.int .u64 0,.int .i64 0,.string ⟨#[]⟩]] V fun en V1=>en=.returned (.agg #[.int .i64 (e1:Nat),.int .u64 0,.int .u64 0])∧Cd w1 P 4800 (K+1) S1 V1∧Ybw w1 V V1):=Lib.hid fun V hV=>by
   have:=(hcd.later hV).step att_ok (by decide) ha1
   rw [att_lit] at this
   exact this
  have H2:Hid (∀ {V},Cd w1 P 4800 (K+1) S1 V→Calls Tryz.prog 13 #[.pointer (some ⟨P,0,none⟩),.int .i64 0,.agg #[.int .i64 1,.int .u64 (n:Nat),.int .u64 0,.int .u64 0,.int .u64 0,.int .u64 0,.int .i64 0,.string ⟨#[]⟩]] V fun en V1=>en=.returned (.agg #[.int .i64 (e:Nat),.int .u64 (p:Nat),.int .u64 0])∧Cd w1 P 4800 (K+1+1) (mTk S1 1 n 16) V1∧Ybw w1 V V1):=Lib.hid fun hC=>by
   have:=hC.step (alm_ok hnb) (by decide) ha2
   rw [alm_lit] at this
   exact this
  have hfin:(fl=true∧((e=0∧rmB S.bs N S.bs.length=true)∨(e=3∧rmB S.bs N S.bs.length=false)))∨(fl=false∧e=2):=by
   rcases HNN.out with ⟨h1,h2,h3⟩|⟨h1,h2⟩
   ·refine .inl ⟨h1,?_⟩
    rw [h3,← he];exact rm_all hM h2
   ·exact .inr ⟨h1,by rw [← he];exact fit_big h2⟩
  have hall:=sm_all hM
  have hle:=sm_le hM
  have hmg:=mg_at hM.hs.mg
  have hfew:=hM.hs.few
  have hE4:=hM.hs.q.top
  have hEl:=hP4.lo
  have hszb:∀ b∈S.bs,b.s≤4800:=fun b hb=>by have:=hM.hs.q.mem hb;omega
  obtain ⟨E,hE⟩:∃ E,S.E=E:=⟨_,rfl⟩
  rw [hE] at hcE hall hE4 hEl
  obtain ⟨m,hm⟩:∃ m,S.bs.length=m:=⟨_,rfl⟩
  rw [hm] at hfin hall hle hmg hfew
  rw [hm]
  have HB6:=Lib.hid hB6
  have HM':=Lib.hid hm
  have HMG:=Lib.hid hmg
  have HLE:=Lib.hid hle
  have HALL:=Lib.hid hall
  have HFIN:=Lib.hid hfin
  have HSZB:=Lib.hid hszb
  have HCE:=Lib.hid hcE
  have HP4:=Lib.hid p4
  have HG6:=Lib.hid hg6
  have HG1:=Lib.hid hg1
  clear hB6 hm hmg hle hall hfin hszb hcE p4 hM hcd hB4 ha1 ha2 hb1 hl1 he hp' hP4 hPz hPl z7 g7 g4 l7 hc1 hc2 hc5 hp ho hn hg6 G4 hg1' hE ecs
  go_loopw [14,11,12] (fun u r s wr=>∃ i:Nat,i≤m∧u=.int .i64 i∧r=.bool (rmB S.bs N i)∧s=.int .u64 (smB S.bs i:Nat)∧w6.grownBy wr none) (fun u _ _ _=>m - (intOf u).toNat)
  case atStart=>exact ⟨0,Nat.zero_le _,rfl,by unfold rmB;rfl,by unfold smB;rfl,Yag _ _⟩
  case round =>
   obtain ⟨i,hi,rfl,rfl,rfl,hgr⟩:=hrel
   by_cases h1:i<m
   ·have h1':(i:Int)<(m:Int):=by omega
    have hil:i<S.bs.length:=by rw [HM'.out];exact h1
    obtain ⟨g',pa,pc,eg,-,hat⟩:=HB6.out.at_ hil
    injection eg with eg
    injection eg with eg _ _
    subst eg
    obtain ⟨⟨-,y1,y2,-,-,-⟩,-⟩:=hat _ hgr
    have hrs:=rm_step (N:=N) hil
    have hss:=sm_step hil
    have hl1:=HLE.out (i+1) (by omega)
    have hmem:S.bs.getD i default∈S.bs:=by rw [List.getD_eq_getElem?_getD,List.getElem?_eq_getElem hil];exact List.getElem_mem hil
    have hsb:=HSZB.out _ hmem
    have hprev:∀ j,i=j+1→(S.bs.getD i default).u=false→∃ q0,(S.bs.getD j default).u=true∧wr.cell? ⟨g,j*6+2,none⟩=some (.bool q0)∧q0=true:=fun j hj hu=>by
     subst hj
     have h3:=HMG.out j (by omega)
     obtain ⟨g2,pa2,pc2,eg2,-,hat2⟩:=HB6.out.at_ (k:=j) (by omega)
     injection eg2 with eg2
     injection eg2 with eg2 _ _
     subst eg2
     obtain ⟨⟨-,-,z2,-,-,-⟩,-⟩:=hat2 _ hgr
     rcases h3 with h3|h3
     ·exact ⟨_,h3,z2,h3⟩
     ·rw [hu] at h3;cases h3
    obtain ⟨s,es⟩:∃ s,(S.bs.getD i default).s=s:=⟨_,rfl⟩
    obtain ⟨u,eu⟩:∃ u,(S.bs.getD i default).u=u:=⟨_,rfl⟩
    obtain ⟨b0,eb0⟩:∃ b0,rmB S.bs N i=b0:=⟨_,rfl⟩
    obtain ⟨s0',es0⟩:∃ s0',smB S.bs i=s0':=⟨_,rfl⟩
    obtain ⟨s1',es1⟩:∃ s1',smB S.bs (i+1)=s1':=⟨_,rfl⟩
    rw [es] at y1 hrs hss hsb
    rw [eu] at y2 hrs hprev
    rw [eb0] at hrs ⊢
    rw [es0] at hss ⊢
    rw [es1] at hss hl1
    have hw1:IntKind.u64.wrap ((s0':Int)+(s:Int))=(s1':Int):=by rw [IntKind.wrap_u64];omega
    have HRS:=Lib.hid hrs
    have HES1:=Lib.hid es1
    have HPR:=Lib.hid hprev
    clear hat hil hmem hrs hss es eu eb0 es0 es1 hprev hl1 hsb
    have hsplit:(i=0)∨(∃ j,i=j+1):=by cases i with|zero=>exact .inl rfl|succ j=>exact .inr ⟨j,rfl⟩
    rcases hsplit with hi0|⟨j,hj⟩
    ·have hz:¬ (0:Int)<(i:Int):=by omega
     clear hi0
     cases b0 with
     | true =>
      go_wp2
      go_roundw
      case rel=>exact ⟨i+1,by omega,by go_num,by rw [HRS.out];simp,by rw [HES1.out],hgr⟩
      case measure=>simp [intOf];omega
     | false =>
      cases u with
      | true =>
       go_wp2
       go_roundw
       case rel=>exact ⟨i+1,by omega,by go_num,by rw [HRS.out];simp,by rw [HES1.out],hgr⟩
       case measure=>simp [intOf];omega
      | false =>
       by_cases hsn:N≤s
       ·have hsn':(N:Int)≤(s:Int):=by omega
        have HSN:=Lib.hid hsn
        clear hsn
        go_wp2
        go_roundw
        case rel=>exact ⟨i+1,by omega,by go_num,by rw [HRS.out];rw [decide_eq_true HSN.out];rfl,by rw [HES1.out],hgr⟩
        case measure=>simp [intOf];omega
       ·have hsn':¬ (N:Int)≤(s:Int):=by omega
        have HSN:=Lib.hid hsn
        clear hsn
        go_wp2
        go_roundw
        case rel=>exact ⟨i+1,by omega,by go_num,by rw [HRS.out];rw [decide_eq_false HSN.out];rfl,by rw [HES1.out],hgr⟩
        case measure=>simp [intOf];omega
    ·have hz:(0:Int)<(i:Int):=by omega
     have hjw:IntKind.i64.wrap ((i:Int) - 1)=(j:Int):=by rw [IntKind.wrap_i64];omega
     have hjm:(j:Int)<(m:Int):=by omega
     have hj0:(0:Int)≤(j:Int):=by omega
     cases b0 with
     | true =>
      cases u with
      | true =>
       clear hj
       go_wp2
       go_roundw
       case rel=>exact ⟨i+1,by omega,by go_num,by rw [HRS.out];simp,by rw [HES1.out],hgr⟩
       case measure=>simp [intOf];omega
      | false =>
       obtain ⟨q0,-,z2,hq0⟩:=HPR.out j hj rfl
       subst hq0
       clear hj
       go_wp2
       go_roundw
       case rel=>exact ⟨i+1,by omega,by go_num,by rw [HRS.out];simp,by rw [HES1.out],hgr⟩
       case measure=>simp [intOf];omega
     | false =>
      cases u with
      | true =>
       clear hj
       go_wp2
       go_roundw
       case rel=>exact ⟨i+1,by omega,by go_num,by rw [HRS.out];simp,by rw [HES1.out],hgr⟩
       case measure=>simp [intOf];omega
      | false =>
       obtain ⟨q0,-,z2,hq0⟩:=HPR.out j hj rfl
       subst hq0
       clear hj
       by_cases hsn:N≤s
       ·have hsn':(N:Int)≤(s:Int):=by omega
        have HSN:=Lib.hid hsn
        clear hsn
        go_wp2
        go_roundw
        case rel=>exact ⟨i+1,by omega,by go_num,by rw [HRS.out];rw [decide_eq_true HSN.out];rfl,by rw [HES1.out],hgr⟩
        case measure=>simp [intOf];omega
       ·have hsn':¬ (N:Int)≤(s:Int):=by omega
        have HSN:=Lib.hid hsn
        clear hsn
        go_wp2
        go_roundw
        case rel=>exact ⟨i+1,by omega,by go_num,by rw [HRS.out];rw [decide_eq_false HSN.out];rfl,by rw [HES1.out],hgr⟩
        case measure=>simp [intOf];omega
   ·obtain rfl:i=m:=by omega
    have h1':¬ (i:Int)<(i:Int):=by omega
    have hwE:IntKind.u64.wrap ((E:Int) - 3776)=((E - 3776:Nat):Int):=by rw [IntKind.wrap_u64];omega
    rw [HALL.out]
    have hEE:(((E - 3776:Nat):Int) == ((E - 3776:Nat):Int))=true:=by simp
    obtain ⟨E2,hE2⟩:∃ E2,E - 3776=E2:=⟨_,rfl⟩
    rw [hE2] at hwE hEE
    rw [hE2]
    clear hE2 h1 hi
    rcases HFIN.out with ⟨hfl,⟨he,hrm⟩|⟨he,hrm⟩⟩|⟨hfl,he⟩
    ·subst hfl he
     rw [hrm]
     clear hrm
     go_wp2_with (first
      | (go_at_call 13;(with_reducible refine (H1.out _ hgr).mono ?_);rintro en v1 ⟨rfl,hC1,hs1⟩;have q1:=hs1.box (Yan HP4.out (Yaa HG6.out hgr)) (by decide) (by decide) (by decide);have hc2:=H2.out hC1)
      | (go_at_call 13;(with_reducible refine hc2.mono ?_);rintro en v2 ⟨rfl,hC2,hs2⟩;have q2:=hs2.box q1 (by decide) (by decide) (by decide);have z15:=Yab v2 (.cells #[.int .i64 0,.int .u64 0,.int .u64 0] 46);have g15:=World.grownBy_alloc v2 (.cells #[.int .i64 0,.int .u64 0,.int .u64 0] 46) none;obtain ⟨Z15,hZ15⟩:∃ Z,v2.alloc (.cells #[.int .i64 0,.int .u64 0,.int .u64 0] 46)=Z:=⟨_,rfl⟩;rw [hZ15] at z15 g15;have hC3:=hC2.later g15;have q3:=Yan q2 g15;have l15:=hC2.gr.size;have n15:=lt_of_block q2)
      | (refine Yae rfl 46 _ _ rfl _ 0 rfl rfl z15 (by exact Nat.le_refl _) (by exact Ya0) (by simp [Value.oneCell']) ?_;intro W16 p16 g16;rw [Yau _ _ (by rfl)] at p16;have hC4:=hC3.past g16 z15 l15 (by decide) (by decide) (by decide);obtain ⟨m0,m1,m2⟩:=Yaf p16;have cE:=Yas (Ya3 q3 g16 (by omega)) HCE.out))
     go_ret
     exact ⟨rfl,Yaa HG1.out hC4.gr⟩
    ·subst hfl he
     rw [hrm]
     clear hrm
     go_wp2_with (first
      | (go_at_call 13;(with_reducible refine (H1.out _ hgr).mono ?_);rintro en v1 ⟨rfl,hC1,hs1⟩;have q1:=hs1.box (Yan HP4.out (Yaa HG6.out hgr)) (by decide) (by decide) (by decide);have hc2:=H2.out hC1)
      | (go_at_call 13;(with_reducible refine hc2.mono ?_);rintro en v2 ⟨rfl,hC2,hs2⟩;have q2:=hs2.box q1 (by decide) (by decide) (by decide);have z15:=Yab v2 (.cells #[.int .i64 0,.int .u64 0,.int .u64 0] 46);have g15:=World.grownBy_alloc v2 (.cells #[.int .i64 0,.int .u64 0,.int .u64 0] 46) none;obtain ⟨Z15,hZ15⟩:∃ Z,v2.alloc (.cells #[.int .i64 0,.int .u64 0,.int .u64 0] 46)=Z:=⟨_,rfl⟩;rw [hZ15] at z15 g15;have hC3:=hC2.later g15;have q3:=Yan q2 g15;have l15:=hC2.gr.size;have n15:=lt_of_block q2)
      | (refine Yae rfl 46 _ _ rfl _ 0 rfl rfl z15 (by exact Nat.le_refl _) (by exact Ya0) (by simp [Value.oneCell']) ?_;intro W16 p16 g16;rw [Yau _ _ (by rfl)] at p16;have hC4:=hC3.past g16 z15 l15 (by decide) (by decide) (by decide);obtain ⟨m0,m1,m2⟩:=Yaf p16;have cE:=Yas (Ya3 q3 g16 (by omega)) HCE.out))
     go_ret
     exact ⟨rfl,Yaa HG1.out hC4.gr⟩
    ·subst hfl he
     obtain ⟨rb,hrb⟩:∃ rb,rmB S.bs N i=rb:=⟨_,rfl⟩
     rw [hrb]
     clear hrb
     go_wp2_with (first
      | (go_at_call 13;(with_reducible refine (H1.out _ hgr).mono ?_);rintro en v1 ⟨rfl,hC1,hs1⟩;have q1:=hs1.box (Yan HP4.out (Yaa HG6.out hgr)) (by decide) (by decide) (by decide);have hc2:=H2.out hC1)
      | (go_at_call 13;(with_reducible refine hc2.mono ?_);rintro en v2 ⟨rfl,hC2,hs2⟩;have q2:=hs2.box q1 (by decide) (by decide) (by decide);have z15:=Yab v2 (.cells #[.int .i64 0,.int .u64 0,.int .u64 0] 46);have g15:=World.grownBy_alloc v2 (.cells #[.int .i64 0,.int .u64 0,.int .u64 0] 46) none;obtain ⟨Z15,hZ15⟩:∃ Z,v2.alloc (.cells #[.int .i64 0,.int .u64 0,.int .u64 0] 46)=Z:=⟨_,rfl⟩;rw [hZ15] at z15 g15;have hC3:=hC2.later g15;have q3:=Yan q2 g15;have l15:=hC2.gr.size;have n15:=lt_of_block q2)
      | (refine Yae rfl 46 _ _ rfl _ 0 rfl rfl z15 (by exact Nat.le_refl _) (by exact Ya0) (by simp [Value.oneCell']) ?_;intro W16 p16 g16;rw [Yau _ _ (by rfl)] at p16;have hC4:=hC3.past g16 z15 l15 (by decide) (by decide) (by decide);obtain ⟨m0,m1,m2⟩:=Yaf p16;have cE:=Yas (Ya3 q3 g16 (by omega)) HCE.out))
     go_ret
     exact ⟨rfl,Yaa HG1.out hC4.gr⟩
 ·go_enter Tryz.func7,Tryz.ntmps7
  go_wp2_with (first
   | (go_at_call 9;go_must ((with_reducible refine (Yc3 _).mono ?_);rintro en w1 ⟨rfl,hg1'⟩;have hg1:=Yaa HG0.out hg1';have hc1:=few14 (c:=c) (hp.later hg1) rfl hn;rw [hf] at hc1))
   | (go_at_call 10;go_must ((with_reducible refine hc1.mono ?_);rintro en w2 ⟨rfl,hw2⟩;subst w2)))
  go_ret
  exact ⟨rfl,hg1⟩
theorem walk {w:World} {la:Option Addr} {c:Nat} {l:List Yc4} (hn:l.length≤maxLen) (ho:∀ q∈l,Yda q) (hp:Yco w la l) (k:Int) (hk:(Lit.int .u64 k).wf=true) :
  Calls Tryz.prog 7 #[.slice la l.length c,.int .u64 k] w fun e w'=>e=.returned (.bool true)∧Below w.heap.size w w':=by
 have hb:=bounds_u64 hk
 obtain ⟨n,rfl⟩:=Int.eq_ofNat_of_zero_le hb.1
 have key:Calls Tryz.prog 7 #[.slice la l.length c,.int .u64 (n:Nat)] w fun e w'=>e=.returned (.bool true)∧w.grownBy w' none:=by
  by_cases hf:n+55<18446744073709551616
  ·exact core hn ho hp (by omega) (fun V=>Ycw n hf V) (.inl ⟨rfl,by omega,rfl⟩)
  ·exact core (N:=0) hn ho hp (by omega) (fun V=>rneed_high n (by omega) (by omega) V) (.inr ⟨rfl,by omega⟩)
 exact key.mono fun e w' ⟨h1,h2⟩=>⟨h1,⟨h2.os,h2.tape,h2.output,h2.size,fun k hk=>h2.block k hk (by simp)⟩⟩
theorem laidOut:laidOutB Tryz.prog=true:=by kernel_rfl
/-! ### The row's step: the guide's frame -/
theorem own:ownKnob Tryz.prog.godebug=none:=by kernel_rfl
set_option maxRecDepth 100000 in
theorem lifted (os:Os) (started:os.Started) (H:Type) (enc:TypeId × Value→H) :
  ReturnsInHanded {} Tryz.checked os 7 .any (Rows.modelRoomSpec.pre6 enc Tryz.prog Tryz.f7 Rows.modelRoomRow.domain false) (Rows.modelRoomSpec.post enc Tryz.prog Tryz.f7 false true false false):=by
 refine returnsInHanded_of_change (C:=Tryz.checked) own started (by kernel_rfl) Tryz.func7
  (ChangeSpec.witness6 (enc:=enc) (C:=Tryz.checked) false ⟨#[],#[.slice none 0 0,.int .u64 0],[]⟩ 8 (by kernel_rfl) (by kernel_rfl) (by kernel_rfl) (by kernel_rfl)) ?_
 intro W base args ds gs before hval0 hW hcnd _
 have hval:∀ (j:Nat) t v,Tryz.f7.params[j]?=some t→args[j]?=some v→Value.okWide Tryz.prog W .any base t v:=hval0
 have hW':=hW
 obtain ⟨p,q,hA0,hV,rfl,hfz,hnd⟩:=hW
 have hA:DataW.TrodAll enc Tryz.prog W 0 (fun _=>true) true Tryz.f7.params.toList args.toList ds p:=hA0
 rw [Tryz.params7] at hA hval
 obtain ⟨v0,vs0,d0,ds0,p0,q0,hargs,rfl,rfl,h0,r0⟩:=trodAll_cons hA
 obtain ⟨v1,vs1,d1,ds1,p1,q1,rfl,rfl,rfl,h1,r1⟩:=trodAll_cons r0
 obtain ⟨rfl,rfl,rfl⟩:=trodAll_nil r1
 obtain rfl:args=#[v0,v1]:=by cases args;simp_all
 obtain ⟨rfl,rfl⟩:=trodVars_none hV
 have lt0:∀ x∈p0,x.block<W.heap.size:=by obtain ⟨m,hm⟩:=h0;exact DataW.trod_lt m _ _ _ hm
 obtain ⟨la0,c0,l0,rfl,hc0,hn0,ho0,hp0⟩:=Yd4 (hval 0 22 v0 rfl rfl) h0
 obtain ⟨a1,rfl,rfl,rfl,w1⟩:=open_int Tryz.underlying26 (hval 1 26 v1 rfl rfl) h1
 clear hA0 hval0
 refine (walk hn0 ho0 hp0 a1 w1).mono fun e W' ⟨he,bel⟩=>?_
 subst he
 exact ⟨_,rfl,_,_,_,[],_,[],hW',trodAll_mk1 (shut_bool Tryz.underlying4 _),(trodAll_cons_mk (Below.trod laidOut (by kernel_rfl) (of_decide_eq_true (by kernel_rfl)) h0 bel lt0) (trodAll_cons_mk (shut_int Tryz.underlying26 w1) trodAll_mk0)),rfl,bel.frame _,fun h=>by cases h⟩

theorem over:Rows.modelRoomRow.holds Tryz.pinned (OpenSpec.ofChange Rows.modelRoomSpec) :=
 OpenClaim.holds_of_wide 7 Tryz.f7 rfl rfl rfl rfl rfl rfl rfl ⟨rfl,rfl,rfl,rfl,rfl⟩ rfl rfl rfl rfl rfl (by kernel_rfl) Tryz.func7 (by kernel_rfl)
  (of_decide_eq_true (by kernel_rfl)) (by unfold Func.isWrapper;first|(rw [if_pos (by decide +kernel)];kernel_rfl)|(rw [if_neg (by decide +kernel)];exact ⟨rfl,rfl⟩))
  (fun os started H enc _=>lifted os started H enc)

theorem proved:Rows.ModelRoomSaid :=
 over
#print axioms proved


end Go.Proofs.YtfhiljglfhekdaaGreat.modelRoom
