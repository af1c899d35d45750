/- compose: IsNFC, Quick, Pair, Second (genCD.py). valid: contr -/
import Derived.Test.YtblcoicaeeiojaaGreatDoorSSiCmpC
import Derived.Test.YtblcoicaeeiojaaGreatDoorSSiPmValSpec
import Derived.Test.YtblcoicaeeiojaaGreatDoorSSiPmOrdEnv
import Derived.Test.YtblcoicaeeiojaaGreatDoorSSiJoiA
import Derived.Test.YtblcoicaeeiojaaGreatDoorSSiPmTabK
import Derived.Test.YtblcoicaeeiojaaGreatDoorSSiPmTabC
import Derived.BigRegion
import Derived.Deep.RegionHeld3
set_option linter.unusedSimpArgs false
set_option linter.unusedVariables false
namespace Go.Proofs.YtblcoicaeeiojaaGreatDoor
open Go.RowKit
theorem isnC_err {T:Tb} {l:List Int} (h:nfdE T l≠0):isnC T l=false:=by unfold isnC;rw[decide_eq_false h];rfl
theorem isnC_ok {T:Tb} {l:List Int} (h:nfdE T l=0):isnC T l=(nfcL T l==l):=by unfold isnC;rw[decide_eq_true h];rfl
set_option maxRecDepth 100000 in
set_option maxHeartbeats 4000000 in
theorem isnfc_at (x : TV) (T : Tb) (p : Option Addr) (cap : Nat) (zs : List Int) (B : Bool) (w : World) (hx : TabV w x T) (hr : Rsv w) (hin : IntsIn w p zs) (hl : zs.length ≤ 17592186043904)
  (hB:Hid (isnC T zs=B)) :
  Calls Tryz.prog 161 #[x.agg,.slice p zs.length cap] w (Gives (.bool B) w):=by
 have HE:=Lib.hid (Env.new hx)
 have HI:=Lib.hid hin
 have HR:=Lib.hid hr
 obtain⟨E,hE⟩:∃E,Hid (nfdE T zs=E):=⟨_,rfl⟩
 obtain⟨L,hL⟩:∃L,Hid (nfcL T zs=L):=⟨_,rfl⟩
 have hod:=fun W (h1:TabV W x T) h2 h3=>nfc_at x T p cap zs E L W h1 h2 h3 hl hE hL
 obtain⟨n,hn⟩:∃n,zs.length=n:=⟨_,rfl⟩
 rw[hn]at hl hod ⊢
 have HN:=Lib.hid hn
 have HOD:=Lib.hid hod
 clear hx hin hn hr hod
 simp only[TV.agg]
 go_enter Tryz.func161,Tryz.ntmps161
 obtain⟨⟨k0,k1,k2,k3,k4,k5⟩,⟨k6,k7,k8,k9,k10,k11⟩⟩:=HE.out.box.load
 go_wp2_with fail
 refine(HOD.out _ HE.out.tab (HR.out.below HE.out.bel) (HI.out.below HE.out.bel)).mono ?_
 rintro e w1 ⟨v1,rfl,ho1,hb1⟩
 replace HE:=Lib.hid (HE.out.step hb1)
 have HO:=Lib.hid ho1
 clear hb1 ho1 k0 k1 k2 k3 k4 k5 k6 k7 k8 k9 k10 k11
 by_cases h0:E=0
 ·subst h0
  have HLB:Hid ((L==zs)=B):=by unfold Hid;rw[←hB.out,isnC_ok hE.out,hL.out]
  have HSI:Hid (InV w1 v1 L):=HO.out.inV (by rw[←hL.out];have:=nfcL_len T zs;omega)
  have HZI:Hid (InV w1 (.slice p n cap) zs):=⟨p,cap,by rw[HN.out],HI.out.below HE.out.bel,by rw[HN.out];omega⟩
  go_wp2_with fail
  refine(equal_at _ _ L zs B _ HSI.out HZI.out HLB).mono ?_
  rintro e w2 ⟨rfl,hb2⟩
  replace HE:=Lib.hid (HE.out.step hb2)
  clear hb2
  go_wp2
  go_ret
  exact⟨rfl,HE.out.bel⟩
 ·have d0:(E==0)=false:=by simp[h0]
  have HBF:Hid (B=false):=by unfold Hid;rw[←hB.out];exact isnC_err (by rw[hE.out];exact h0)
  clear h0
  go_wp2
  go_ret
  exact⟨by rw[HBF.out];rfl,HE.out.bel⟩
theorem vref_at (x : TV) (T : Tb) (p : Option Addr) (cap : Nat) (zs : List Int) (E : Int) (w : World) (hx : TabV w x T) (hr : Rsv w) (hin : IntsIn w p zs) (hl : zs.length ≤ 17592186043904) (hE : Hid (accE T zs = E)) :
  Calls Tryz.prog 160 #[x.agg,.slice p zs.length cap] w (Gives (.int .i64 E) w):=by
 obtain⟨RL,hRL⟩:∃L,Hid (runsL T zs=L):=⟨_,rfl⟩
 have hac:=fun W (h1:TabV W x T) h2 h3=>runs_at x T p cap zs E RL W h1 h2 h3 hl hE hRL
 have HR:=Lib.hid hr
 have HE:=Lib.hid (Env.new hx)
 have HI:=Lib.hid hin
 obtain⟨n,hn⟩:∃n,zs.length=n:=⟨_,rfl⟩
 rw[hn]at hl hac ⊢
 have HAC:=Lib.hid hac
 clear hx hin hn hr hac
 simp only[TV.agg]
 go_enter Tryz.func160,Tryz.ntmps160
 obtain⟨⟨k0,k1,k2,k3,k4,k5⟩,⟨k6,k7,k8,k9,k10,k11⟩⟩:=HE.out.box.load
 go_wp2_with fail
 refine(HAC.out _ HE.out.tab (HR.out.below HE.out.bel) (HI.out.below HE.out.bel)).mono ?_
 rintro e w1 ⟨v0,rfl,_,hb1⟩
 replace HE:=Lib.hid (HE.out.step hb1)
 clear hb1 k0 k1 k2 k3 k4 k5 k6 k7 k8 k9 k10 k11
 go_wp2
 go_ret
 exact⟨rfl,HE.out.bel⟩
set_option maxRecDepth 100000 in
set_option maxHeartbeats 4000000 in
theorem visf_at (x : TV) (T : Tb) (c : Int) (B : Bool) (w : World) (hx : TabV w x T) (ha : ascB 0 T.sta = true) (hB : Hid (staV T c = B)) :
  Calls Tryz.prog 166 #[x.agg,.int .i64 c] w (Gives (.bool B) w):=by
 have HE:=Lib.hid (Env.new hx)
 have HA:=Lib.hid ha
 obtain⟨y,hy⟩:∃y,Hid (staT T c=y):=⟨_,rfl⟩
 have HBB:Hid ((decide (c≠46)&&(decide (y=1)||decide (y=4)))=B):=by unfold Hid;rw[←hB.out];unfold staV;rw[hy.out]
 clear hx ha hB
 simp only[TV.agg]
 go_enter Tryz.func166,Tryz.ntmps166
 obtain⟨⟨k0,k1,k2,k3,k4,k5⟩,⟨k6,k7,k8,k9,k10,k11⟩⟩:=HE.out.box.load
 go_wp2_with fail
 refine(status_at x T c y _ HE.out.tab HA.out hy).mono ?_
 rintro e w1 ⟨rfl,hb⟩
 replace HE:=Lib.hid (HE.out.step hb)
 clear hb
 clear k0 k1 k2 k3 k4 k5 k6 k7 k8 k9 k10 k11
 clear hy
 by_cases hy1:y=1
 ·subst hy1
  obtain rfl:B=(c !=46):=by rw[←HBB.out];by_cases h:c=46<;>simp[h]
  clear HBB
  go_wp2
  go_ret
  exact⟨rfl,HE.out.bel⟩
 ·have e1:(y==1)=false:=by simp[hy1]
  by_cases hy4:y=4
  ·subst hy4
   obtain rfl:B=(c !=46):=by rw[←HBB.out];by_cases h:c=46<;>simp[h]
   clear HBB
   go_wp2
   go_ret
   exact⟨rfl,HE.out.bel⟩
  ·have e4:(y==4)=false:=by simp[hy4]
   obtain rfl:B=false:=by rw[←HBB.out,decide_eq_false hy1,decide_eq_false hy4];simp
   clear HBB hy1 hy4
   go_wp2
   go_ret
   exact⟨rfl,HE.out.bel⟩
def notV (T:Tb) (c:Int):Bool := !staV T c
theorem notV_any {T:Tb} {l:List Int}:l.any (notV T) = !l.all (staV T):=by rw[List.not_all_eq_any_not];rfl
theorem vclo_any (c : Int) (g : Nat) (x : TV) (T : Tb) (w : World) (hb : BoxT w g x) (hx : TabV w x T) (ha : ascB 0 T.sta = true) :
  Calls Tryz.prog 165 #[.int .i64 c,.pointer (some ⟨g,0,none⟩)] w (Gives (.bool (notV T c)) w):=by
 obtain⟨B,hB⟩:∃B,Hid (staV T c=B):=⟨_,rfl⟩
 have HN:Hid (notV T c = !B):=by unfold Hid notV;rw[hB.out]
 have HX:=Lib.hid hx
 have HA:=Lib.hid ha
 obtain⟨⟨k0,k1,k2,k3,k4,k5⟩,⟨k6,k7,k8,k9,k10,k11⟩⟩:=hb
 clear hx ha
 go_enter Tryz.func165,Tryz.ntmps165
 go_wp2_with fail
 refine(visf_at x T c B _ HX.out HA.out hB).mono ?_
 rintro e w1 ⟨rfl,hb1⟩
 have HB1:=Lib.hid hb1
 clear hb1
 go_wp2
 go_ret
 exact⟨by rw[HN.out];rfl,HB1.out⟩
theorem testV (g:Nat) (x:TV) (T:Tb) (w:World) (hb:BoxT w g x) (hx:TabV w x T) (ha:ascB 0 T.sta=true):TestI 165 #[.pointer (some ⟨g,0,none⟩)] (notV T) w :=
 fun c W hW=>vclo_any c g x T W (hb.below hW) (hx.below hW) ha
theorem entersV:∀args w,(callFunc 165 args).run Tryz.prog w = .ok (.enter 165 args) w:=enters_of Tryz.func165 (by kernel_rfl) rfl
set_option maxRecDepth 100000 in
set_option maxHeartbeats 4000000 in
theorem vhyp_at (p : Option Addr) (n cap : Nat) (zs : List Int) (B : Bool) (w : World) (hin : IntsIn w p zs) (HN : Hid (zs.length = n)) (hl : n ≤ 17592186043904) (hB : Hid (hypB zs = B)) :
  Calls Tryz.prog 162 #[.slice p n cap] w (Gives (.bool B) w):=by
 have HI:=Lib.hid hin
 have HW:Hid (wantH zs=B):=by unfold Hid;rw[←hyp_want];exact hB.out
 clear hin hB
 go_enter Tryz.func162,Tryz.ntmps162
 by_cases h0:n=0
 ·subst h0
  have hnil:zs=[]:=List.eq_nil_of_length_eq_zero HN.out
  obtain rfl:B=true:=by rw[←HW.out,hnil];rfl
  clear hnil HW
  go_wp2
  go_ret
  exact⟨rfl,Below.refl _ _⟩
 ·have dn:((n:Int)==0)=false:=by simp;omega
  have i0:(0:Int)<(n:Int):=by omega
  have i1:0<n:=by omega
  obtain⟨a0,Ha0⟩:∃a,zs.getD 0 0=a:=⟨_,rfl⟩
  obtain⟨a1,Ha1⟩:∃a,zs.getD (n-1) 0=a:=⟨_,rfl⟩
  obtain⟨a2,Ha2⟩:∃a,zs.getD 2 0=a:=⟨_,rfl⟩
  obtain⟨a3,Ha3⟩:∃a,zs.getD 3 0=a:=⟨_,rfl⟩
  obtain⟨b,off,e,hc0⟩:=HI.out 0 (by rw[HN.out];omega)
  subst e
  obtain⟨b',off',e,hc1⟩:=HI.out (n-1) (by rw[HN.out];omega)
  injection e with e
  injection e with e e2 _
  subst e
  subst e2
  rw[Ha0,Nat.add_zero]at hc0
  rw[Ha1]at hc1
  have HBB:Hid ((if 4≤n∧a2=45∧a3=45 then false else(decide (a0≠45)&&decide (a1≠45)))=B):=by
   unfold Hid;rw[←HW.out];unfold wantH;rw[HN.out,Ha0,Ha1,Ha2,Ha3,decide_eq_false h0,Bool.false_or]
  obtain⟨m,hm⟩:∃m,n-1=m:=⟨_,rfl⟩
  rw[hm]at hc1
  have s1:(n:Int)-1=m:=by omega
  have s2:IntKind.i64.wrap (m:Int)=m:=IntWalk.i64_in _ (by omega)
  have s3:m<n:=by omega
  have s4:(m:Int)<n:=by omega
  by_cases h1:a0=45
  ·subst h1
   obtain rfl:B=false:=by rw[←HBB.out];split<;>simp
   clear HBB HW hm
   go_wp2
   go_ret
   exact⟨rfl,Below.refl _ _⟩
  ·have d0:(a0==45)=false:=by simp[h1]
   by_cases h2:a1=45
   ·subst h2
    obtain rfl:B=false:=by rw[←HBB.out];split<;>simp
    clear HBB HW hm
    go_wp2
    go_ret
    exact⟨rfl,Below.refl _ _⟩
   ·have d1:(a1==45)=false:=by simp[h2]
    by_cases h4:n<4
    ·obtain rfl:B=true:=by rw[←HBB.out,if_neg (fun h=>by omega),decide_eq_true h1,decide_eq_true h2];rfl
     have d4:(n:Int)<4:=by omega
     clear HBB HW hm
     go_wp2
     go_ret
     exact⟨rfl,Below.refl _ _⟩
    ·have d4:¬(n:Int)<4:=by omega
     have d5:decide ((n:Int)<4)=false:=decide_eq_false d4
     obtain⟨b2,off2,e,hc2⟩:=HI.out 2 (by rw[HN.out];omega)
     injection e with e
     injection e with e e2 _
     subst e
     subst e2
     obtain⟨b3,off3,e,hc3⟩:=HI.out 3 (by rw[HN.out];omega)
     injection e with e
     injection e with e e2 _
     subst e
     subst e2
     rw[Ha2]at hc2
     rw[Ha3]at hc3
     have j2:(2:Int)<n:=by omega
     have j3:(3:Int)<n:=by omega
     have j4:2<n:=by omega
     have j5:3<n:=by omega
     by_cases h5:a2=45
     ·subst h5
      obtain rfl:B=(a3 !=45):=by
       rw[←HBB.out];by_cases h:a3=45
       ·rw[if_pos ⟨by omega,rfl,h⟩];simp[h]
       ·rw[if_neg (fun hh=>h hh.2.2),decide_eq_true h1,decide_eq_true h2];simp[h]
      clear HBB HW hm
      go_wp2
      go_ret
      exact⟨rfl,Below.refl _ _⟩
     ·have d6:(a2 !=45)=true:=by simp[h5]
      obtain rfl:B=true:=by rw[←HBB.out,if_neg (fun hh=>h5 hh.2.1),decide_eq_true h1,decide_eq_true h2];rfl
      clear HBB HW hm
      go_wp2
      go_ret
      exact⟨rfl,Below.refl _ _⟩
set_option maxRecDepth 100000 in
set_option maxHeartbeats 4000000 in
theorem vchk_at (x : TV) (T : Tb) (p : Option Addr) (cap : Nat) (zs : List Int) (V : Int) (w : World) (hx : TabV w x T) (hr : Rsv w) (hin : IntsIn w p zs) (hl : zs.length ≤ 17592186043904) (hV : Hid (valR T zs = V)) :
  Calls Tryz.prog 107 #[x.agg,.slice p zs.length cap] w (Gives (.int .i64 V) w):=by
 obtain⟨A,hA⟩:∃A,Hid (accE T zs=A):=⟨_,rfl⟩
 obtain⟨N,hN⟩:∃N,Hid (isnC T zs=N):=⟨_,rfl⟩
 obtain⟨Y,hY⟩:∃Y,Hid (hypB zs=Y):=⟨_,rfl⟩
 obtain⟨S,hS⟩:∃S,Hid (zs.any (notV T)=S):=⟨_,rfl⟩
 obtain⟨Kj,Ej,hJ⟩:∃K E,Hid (chkJ T zs=(K,E)):=⟨_,_,rfl⟩
 obtain⟨Kc,Ec,hC⟩:∃K E,Hid (chkC T zs=(K,E)):=⟨_,_,rfl⟩
 have HE:=Lib.hid (Env.new hx)
 have HR:=Lib.hid hr
 have HI:=Lib.hid hin
 have hac:=fun W (h1:TabV W x T) h3 h2=>vref_at x T p cap zs A W h1 h3 h2 hl hA
 have hnf:=fun W (h1:TabV W x T) h3 h2=>isnfc_at x T p cap zs N W h1 h3 h2 hl hN
 have hjc:=fun W (h1:TabV W x T) h3 h2=>jcheck_at x T p cap zs Kj Ej W h1 h3 h2 hl hJ
 have hcc:=fun W (h1:TabV W x T) h3 h2=>ccheck_at x T p cap zs Kc Ec W h1 h3 h2 hl hC
 have hcf:=fun W g (h0:BoxT W g x) (h1:TabV W x T) h2 ha=>conI_any (.slice p zs.length cap) zs 165 #[.pointer (some ⟨g,0,none⟩)] (notV T) S W ⟨p,cap,rfl,h2,hl⟩ (testV g x T W h0 h1 ha) entersV hS
 have HV:Hid ((if A≠0 then A else if zs=[]then 10 else if N=false then 13 else if Y=false then 14 else if catT T (zs.getD 0 0)=2 then 15 else if S=true then 16 else if Ej≠0 then Ej else Ec)=V):=by
  unfold Hid;rw[←hV.out];unfold valR;rw[hA.out,hN.out,hY.out,hJ.out,hC.out,←hS.out,notV_any]
  cases zs.all (staV T)<;>simp
 obtain⟨n,hn⟩:∃n,zs.length=n:=⟨_,rfl⟩
 rw[hn]at hl hac hnf hjc hcc hcf ⊢
 have HN:=Lib.hid hn
 have HAC:=Lib.hid hac
 have HNF:=Lib.hid hnf
 have HJC:=Lib.hid hjc
 have HCC:=Lib.hid hcc
 have HCF:=Lib.hid hcf
 clear hx hin hn hr hac hnf hjc hcc hcf hV hN hJ hC hS
 simp only[TV.agg]
 go_enter Tryz.func107,Tryz.ntmps107
 obtain⟨⟨k0,k1,k2,k3,k4,k5⟩,⟨k6,k7,k8,k9,k10,k11⟩⟩:=HE.out.box.load
 go_wp2_with fail
 refine(HAC.out _ HE.out.tab (HR.out.below HE.out.bel) (HI.out.below HE.out.bel)).mono ?_
 rintro e w1 ⟨rfl,hb⟩
 replace HE:=Lib.hid (HE.out.step hb)
 clear hb
 clear k0 k1 k2 k3 k4 k5 k6 k7 k8 k9 k10 k11
 by_cases h0:A=0
 ·subst h0
  have hsp:=r2_sp (check_rules (accE_ok hA.out).1).2.1
  have HSC:Hid (ascB 0 T.cat=true):=hsp.1
  have HSS:Hid (ascB 0 T.sta=true):=hsp.2.2.2.2.2.1
  clear hsp
  replace HV:=HV.out
  rw[if_neg (by simp)]at HV
  by_cases h1:n=0
  ·have hnil:zs=[]:=List.eq_nil_of_length_eq_zero (by rw[HN.out];exact h1)
   rw[if_pos hnil]at HV
   subst HV
   subst h1
   clear hnil
   go_wp2
   go_ret
   exact⟨rfl,HE.out.bel⟩
  ·have dn:((n:Int)==0)=false:=by simp;omega
   have hne:zs≠[]:=fun h=>h1 (by rw[←HN.out,h];rfl)
   rw[if_neg hne]at HV
   have hkl:0<zs.length:=by rw[HN.out];omega
   replace HV:=Lib.hid HV
   clear hne
   obtain⟨⟨k0,k1,k2,k3,k4,k5⟩,⟨k6,k7,k8,k9,k10,k11⟩⟩:=HE.out.box.load
   go_wp2_with fail
   refine(HNF.out _ HE.out.tab (HR.out.below HE.out.bel) (HI.out.below HE.out.bel)).mono ?_
   rintro e w2 ⟨rfl,hb⟩
   replace HE:=Lib.hid (HE.out.step hb)
   clear hb
   clear k0 k1 k2 k3 k4 k5 k6 k7 k8 k9 k10 k11
   cases N with
   | false =>
    obtain rfl:V=13:=by rw[←HV.out,if_pos rfl]
    go_wp2
    go_ret
    exact⟨rfl,HE.out.bel⟩
   | true =>
    replace HV:=HV.out
    rw[if_neg (by simp)]at HV
    replace HV:=Lib.hid HV
    go_wp2_with fail
    refine(vhyp_at _ n cap zs Y _ (HI.out.below HE.out.bel) HN hl hY).mono ?_
    rintro e w3 ⟨rfl,hb⟩
    replace HE:=Lib.hid (HE.out.step hb)
    clear hb
    cases Y with
    | false =>
     obtain rfl:V=14:=by rw[←HV.out,if_pos rfl]
     go_wp2
     go_ret
     exact⟨rfl,HE.out.bel⟩
    | true =>
     replace HV:=HV.out
     rw[if_neg (by simp)]at HV
     obtain⟨z,hz⟩:∃z,Hid (catT T (zs.getD 0 0)=z):=⟨_,rfl⟩
     rw[hz.out]at HV
     replace HV:=Lib.hid HV
     go_upto_region 10 with(fail)
     obtain⟨b,off,rfl,hck⟩:=(HI.out.below HE.out.bel) 0 hkl
     obtain⟨c,hc⟩:∃c,zs.getD 0 0=c:=⟨_,rfl⟩
     rw[hc,Nat.add_zero]at hck
     rw[hc]at hz
     have i1:(0:Int)<(n:Int):=by omega
     have i2:0<n:=by omega
     have K20:=fun p=>layB_cell hck p
     have cc:=fun p=>layB_call (p:=p) fun W2 hW2=>category_at x T c z W2 (HE.out.tab.below hW2) HSC.out hz
     simp only[TV.agg]at cc
     have CC:=Lib.hid cc
     clear cc hc hck hkl
     obtain⟨⟨k0,k1,k2,k3,k4,k5⟩,⟨k6,k7,k8,k9,k10,k11⟩⟩:=HE.out.box.load
     have K0:=fun p=>layB_cell k0 p
     have K1:=fun p=>layB_cell k1 p
     have K2:=fun p=>layB_cell k2 p
     have K3:=fun p=>layB_cell k3 p
     have K4:=fun p=>layB_cell k4 p
     have K5:=fun p=>layB_cell k5 p
     have K6:=fun p=>layB_cell k6 p
     have K7:=fun p=>layB_cell k7 p
     have K8:=fun p=>layB_cell k8 p
     have K9:=fun p=>layB_cell k9 p
     have K10:=fun p=>layB_cell k10 p
     have K11:=fun p=>layB_cell k11 p
     clear k0 k1 k2 k3 k4 k5 k6 k7 k8 k9 k10 k11
     refine wp_region_layB (by kernel_rfl) (by kernel_rfl) ?_
     repeat (go_big_quiet_step ((go_at_call 163;with_reducible exact CC.out _)))
     refine wpQuiet_nil ?_
     intro _ hw'
     obtain⟨pq,hw''⟩:=hw'
     subst hw''
     replace HE:=Lib.hid (HE.out.step (layB_below w3 pq))
     generalize layB w3 pq=W2 at HE ⊢
     clear K0 K1 K2 K3 K4 K5 K6 K7 K8 K9 K10 K11 K20 CC
     by_cases hz2:z=2
     ·subst hz2
      obtain rfl:V=15:=by rw[←HV.out,if_pos rfl]
      go_wp2
      go_ret
      exact⟨rfl,HE.out.bel⟩
     ·have dz:(z==2)=false:=by simp[hz2]
      replace HV:=HV.out
      rw[if_neg hz2]at HV
      replace HV:=Lib.hid HV
      clear hz2
      rw[dz]
      obtain⟨⟨k0,k1,k2,k3,k4,k5⟩,⟨k6,k7,k8,k9,k10,k11⟩⟩:=HE.out.box.load
      go_wp2_with fail
      refine(HCF.out _ _ HE.out.box HE.out.tab (HI.out.below HE.out.bel) HSS.out).mono ?_
      rintro e w5 ⟨rfl,hb⟩
      replace HE:=Lib.hid (HE.out.step hb)
      clear hb
      clear k0 k1 k2 k3 k4 k5 k6 k7 k8 k9 k10 k11
      cases S with
      | true =>
       obtain rfl:V=16:=by rw[←HV.out,if_pos rfl]
       go_wp2
       go_ret
       exact⟨rfl,HE.out.bel⟩
      | false =>
       replace HV:=HV.out
       rw[if_neg (by simp)]at HV
       replace HV:=Lib.hid HV
       obtain⟨⟨k0,k1,k2,k3,k4,k5⟩,⟨k6,k7,k8,k9,k10,k11⟩⟩:=HE.out.box.load
       go_wp2_with fail
       refine(HJC.out _ HE.out.tab (HR.out.below HE.out.bel) (HI.out.below HE.out.bel)).mono ?_
       rintro e w6 ⟨rfl,hb⟩
       replace HE:=Lib.hid (HE.out.step hb)
       clear hb
       clear k0 k1 k2 k3 k4 k5 k6 k7 k8 k9 k10 k11
       by_cases hj0:Ej=0
       ·have dj:(Ej !=0)=false:=by simp[hj0]
        obtain rfl:V=Ec:=by rw[←HV.out,if_neg (by rw[hj0];simp)]
        clear hj0
        obtain⟨⟨k0,k1,k2,k3,k4,k5⟩,⟨k6,k7,k8,k9,k10,k11⟩⟩:=HE.out.box.load
        go_wp2_with fail
        refine(HCC.out _ HE.out.tab (HR.out.below HE.out.bel) (HI.out.below HE.out.bel)).mono ?_
        rintro e w7 ⟨rfl,hb⟩
        replace HE:=Lib.hid (HE.out.step hb)
        clear hb
        clear k0 k1 k2 k3 k4 k5 k6 k7 k8 k9 k10 k11
        go_wp2
        go_ret
        exact⟨rfl,HE.out.bel⟩
       ·have dj:(Ej !=0)=true:=by simp[hj0]
        obtain rfl:V=Ej:=by rw[←HV.out,if_pos hj0]
        clear hj0
        go_wp2
        go_ret
        exact⟨rfl,HE.out.bel⟩
 ·have d0:(A !=0)=true:=by simp[h0]
  obtain rfl:V=A:=by rw[←HV.out,if_pos h0]
  clear h0
  go_wp2
  go_ret
  exact⟨rfl,HE.out.bel⟩
end Go.Proofs.YtblcoicaeeiojaaGreatDoor
