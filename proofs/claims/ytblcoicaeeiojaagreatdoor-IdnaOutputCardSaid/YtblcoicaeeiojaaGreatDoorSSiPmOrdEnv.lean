/- valid: the law's examples (plain). idna (stage 18): plain: w -/
import Derived.Test.YtblcoicaeeiojaaGreatDoorSSiPmValSpec
import Derived.Test.YtblcoicaeeiojaaGreatDoorSSiPmBidFact
import Derived.Test.YtblcoicaeeiojaaGreatDoorSSiPmSplFact
import Derived.Test.YtblcoicaeeiojaaGreatDoorSSiPmPunSpec3
import Derived.Test.YtblcoicaeeiojaaGreatDoorSSiPmUtfSpec
import Derived.Test.YtblcoicaeeiojaaGreatDoorSSiPmMapSpec
import Derived.Test.YtblcoicaeeiojaaGreatDoorSSiTblJ
import Derived.Test.YtblcoicaeeiojaaGreatDoorSSiPmUtfE
import Derived.Test.YtblcoicaeeiojaaGreatDoorSSiCtxB
import Derived.Test.YtblcoicaeeiojaaGreatDoorSSiPmTabW
import Derived.BigRegion
import Derived.Deep.RegionHeld3
import Derived.Test.YtblcoicaeeiojaaGreatDoorSSiPmTabP
set_option linter.unusedSimpArgs false
set_option linter.unusedVariables false
namespace Go.Proofs.YtblcoicaeeiojaaGreatDoor
def veT:Tb:=⟨[],[],[],[],[],[],[],[],[],[],[],[]⟩
def decU (L:List UInt8):List Int × Nat × Int :=
 if 4096<L.length then([],0,7)else if(dec L).2<L.length then([],(dec L).2,9) else((dec L).1,0,0)
def labP (x:List Int):List Int × Int:=if ascQ x=true∧isX x=true then ptsS x else(x,0)
def lab1 (T:Tb) (x:List Int):List Int × Int :=
 if(labP x).2≠0 then([],(labP x).2)else if valR T (labP x).1≠0 then([],valR T (labP x).1) else((labP x).1,0)
def labK (T:Tb):Nat→List (List Int)→List (List Int) × Nat × Int
 | _,[]=>([],0,0)
 | k, x :: r => if (lab1 T x).2 ≠ 0 then ([], k, (lab1 T x).2) else
   if(labK T (k+1) r).2.2≠0 then labK T (k+1) r else((lab1 T x).1::(labK T (k+1) r).1,0,0)
def procL (T:Tb) (m:List Int):List (List Int) × Nat × Int :=
 if(labK T 0 (cutD m)).2.2≠0 then([],(labK T 0 (cutD m)).2) else
 if(domR T (labK T 0 (cutD m)).1).2≠0 then([],(domR T (labK T 0 (cutD m)).1).1.toNat,(domR T (labK T 0 (cutD m)).1).2) else((labK T 0 (cutD m)).1,0,0)
def procM (T:Tb) (l:List Int):List (List Int) × Nat × Int :=
 if(mapR T l).2.2≠0 then([],(mapR T l).2)else if nfdE T (mapR T l).1≠0 then([],0,nfdE T (mapR T l).1)else procL T (nfcL T (mapR T l).1)
def procR (T:Tb) (s:List UInt8):List (List Int) × Nat × Int :=
 if checkT T≠0 then([],0,2)else if s=[] then([],0,10) else
 if(decU s).2.2≠0 then([],(decU s).2)else procM T (decU s).1
def encK:Nat→List (List Int)→List (List Int) × Nat × Int
 | _,[]=>([],0,0)
 | k, x :: r => if (labS x).2 ≠ 0 then ([], k, (labS x).2) else
   if(encK (k+1) r).2.2≠0 then encK (k+1) r else((labS x).1::(encK (k+1) r).1,0,0)
def ascL (Y:List (List Int)):List Int × Nat × Int :=
 if(encK 0 Y).2.2≠0 then([],(encK 0 Y).2)else if(chkD ((encK 0 Y).1.map List.length)).2≠0 then([],chkD ((encK 0 Y).1.map List.length)) else(joinD (encK 0 Y).1,0,0)
def toaR (T:Tb) (s:List UInt8):List Int × Nat × Int :=
 if(procR T s).2.2≠0 then([],(procR T s).2)else ascL (procR T s).1
def touR (T:Tb) (s:List UInt8):List Int × Nat × Int :=
 if(toaR T s).2.2≠0 then([],(toaR T s).2) else(joinD (procR T s).1,0,0)
theorem valid_parts {T:Tb} {y:List Int} (h:valR T y=0):y≠[]∧(46:Int)∉y∧(∀c∈y,staT T c=1∨staT T c=4)∧y.all scaB=true∧isX y=false∧nfdE T y=0∧nfcL T y=y:=by
 obtain⟨h1,h2,h3,h4,h5⟩:=val_ok h
 obtain⟨h6,h7⟩:=isn_facts h3
 have hs:∀c∈y,c≠46∧(staT T c=1∨staT T c=4):=fun c hc=>by
  have:=List.all_eq_true.1 h5 c hc
  unfold staV at this
  simp only[Bool.and_eq_true,Bool.or_eq_true,decide_eq_true_eq]at this
  exact this
 refine⟨h2,fun hm=>(hs 46 hm).1 rfl,fun c hc=>(hs c hc).2,(accE_ok h1).2.2,?_,h6,h7⟩
 have hh:hypB y=true:=by
  unfold valR at h
  rw[if_neg (by omega),if_neg h2,if_neg (by rw[h3];simp)]at h
  cases hb:hypB y with
  | true=>rfl
  | false=>rw[if_pos hb]at h;omega
 unfold isX
 by_cases hl:4≤y.length
 ·have e2:atC y 2=y.getD 2 0:=atC_in (k:=2) (by omega)
  have e3:atC y 3=y.getD 3 0:=atC_in (k:=3) (by omega)
  have:¬lowS (y.take 4)=xnS:=fun e=>by
   have g2:(lowS (y.take 4)).getD 2 0=lowC (y.getD 2 0):=by
    unfold lowS
    simp[List.getD,List.getElem?_take,show 2<y.length by omega]
   have g3:(lowS (y.take 4)).getD 3 0=lowC (y.getD 3 0):=by
    unfold lowS
    simp[List.getD,List.getElem?_take,show 3<y.length by omega]
   rw[e]at g2 g3
   have k2:y.getD 2 0=45:=by
    have:(45:Int)=lowC (y.getD 2 0):=g2
    unfold lowC at this;split at this<;>omega
   have k3:y.getD 3 0=45:=by
    have:(45:Int)=lowC (y.getD 3 0):=g3
    unfold lowC at this;split at this<;>omega
   unfold hypB at hh
   rw[e2,e3,k2,k3]at hh
   simp at hh
  simp[this]
 ·simp[hl]
theorem lab1_fixed {T:Tb} {y:List Int} (h:valR T y=0):lab1 T y=(y,0):=by
 obtain⟨_,_,_,_,hx,_,_⟩:=valid_parts h
 have hp:labP y=(y,0):=by unfold labP;rw[if_neg (fun e=>by rw[hx]at e;cases e.2)]
 unfold lab1
 rw[hp]
 simp only
 rw[if_neg (by simp),if_neg (by omega)]
theorem labK_fixed {T:Tb}:∀(Y:List (List Int)) (k:Nat),(∀y∈Y,valR T y=0)→labK T k Y=(Y,0,0)
 | [],k,_=>rfl
 | y::r,k,h=>by
  rw[labK,lab1_fixed (h y (by simp)),labK_fixed r (k+1) (fun z hz=>h z (by simp[hz]))]
  simp
theorem lab1_ok {T:Tb} {x:List Int} (h:(lab1 T x).2=0):valR T (lab1 T x).1=0∧(lab1 T x).1=(labP x).1:=by
 unfold lab1 at h ⊢
 by_cases h1:(labP x).2=0
 ·rw[if_neg (by omega)]at h ⊢
  by_cases h2:valR T (labP x).1=0
  ·rw[if_neg (by omega)];exact⟨h2,rfl⟩
  ·rw[if_pos h2]at h;exact absurd h h2
 ·rw[if_pos h1]at h;exact absurd h h1
theorem labK_ok {T:Tb}:∀(X:List (List Int)) (k:Nat),(labK T k X).2.2=0→(∀y∈(labK T k X).1,valR T y=0)∧(labK T k X).1.length=X.length∧(labK T k X).2.1=0
 | [],k,_=>by simp[labK]
 | x::r,k,h=>by
  rw[labK]at h ⊢
  by_cases h1:(lab1 T x).2=0
  ·rw[if_neg (by omega)]at h ⊢
   by_cases h2:(labK T (k+1) r).2.2=0
   ·rw[if_neg (by omega)]
    obtain⟨i1,i2,i3⟩:=labK_ok r (k+1) h2
    refine⟨fun y hy=>?_,by simp[i2],rfl⟩
    rcases List.mem_cons.1 hy with e|e
    ·rw[e];exact(lab1_ok h1).1
    ·exact i1 y e
   ·rw[if_pos h2]at h;exact absurd h h2
  ·rw[if_pos h1]at h;exact absurd h h1
theorem procL_ok {T:Tb} {m:List Int} (h:(procL T m).2.2=0):(∀y∈(procL T m).1,valR T y=0)∧(domR T (procL T m).1).2=0∧(procL T m).1≠[]∧procL T m=((procL T m).1,0,0):=by
 unfold procL at h ⊢
 by_cases h1:(labK T 0 (cutD m)).2.2=0
 ·rw[if_neg (by omega)]at h ⊢
  by_cases h2:(domR T (labK T 0 (cutD m)).1).2=0
  ·rw[if_neg (by omega)]
   obtain⟨i1,i2,i3⟩:=labK_ok _ _ h1
   refine⟨i1,h2,fun e=>?_,rfl⟩
   have e:(labK T 0 (cutD m)).1=[]:=e
   rw[e]at i2
   have:=cutD_len m
   simp at i2
   omega
  ·rw[if_pos h2]at h;exact absurd h h2
 ·rw[if_pos h1]at h;exact absurd h h1
theorem procM_ok {T:Tb} {l:List Int} (h:(procM T l).2.2=0):procM T l=procL T (nfcL T (mapR T l).1)∧(mapR T l).2.2=0∧nfdE T (mapR T l).1=0:=by
 unfold procM at h ⊢
 by_cases h1:(mapR T l).2.2=0
 ·rw[if_neg (by omega)]at h ⊢
  by_cases h2:nfdE T (mapR T l).1=0
  ·rw[if_neg (by omega)];exact⟨rfl,h1,h2⟩
  ·rw[if_pos h2]at h;exact absurd h h2
 ·rw[if_pos h1]at h;exact absurd h h1
theorem procR_ok {T:Tb} {s:List UInt8} (h:(procR T s).2.2=0):checkT T=0∧s≠[]∧(decU s).2.2=0∧procR T s=procM T (decU s).1∧(∀y∈(procR T s).1,valR T y=0)∧(domR T (procR T s).1).2=0∧(procR T s).1≠[]∧procR T s=((procR T s).1,0,0):=by
 unfold procR at h ⊢
 by_cases h1:checkT T=0
 ·rw[if_neg (by omega)]at h ⊢
  by_cases h2:s=[]
  ·rw[if_pos h2]at h;simp at h
  ·rw[if_neg h2]at h ⊢
   by_cases h3:(decU s).2.2=0
   ·rw[if_neg (by omega)]at h ⊢
    have hm:=procM_ok h
    rw[hm.1]at h
    obtain⟨i1,i2,i3,i4⟩:=procL_ok h
    refine⟨h1,h2,h3,rfl,?_,?_,?_,?_⟩<;>rw[hm.1]<;>first|exact i1|exact i2|exact i3|exact i4
   ·rw[if_pos h3]at h;exact absurd h h3
 ·rw[if_pos h1]at h;simp at h
end Go.Proofs.YtblcoicaeeiojaaGreatDoor
namespace Go.Proofs.YtblcoicaeeiojaaGreatDoor
open Go.RowKit
set_option maxHeartbeats 2000000 in
theorem joining_at (x : TV) (T : Tb) (c : Int) (z : Int) (w : World) (hx : TabV w x T) (ha : ascB 0 T.joi = true) (hz : Hid (joiT T c = z)) :
  Calls Tryz.prog 273 #[x.agg,.int .i64 c] w (Gives (.int .i64 z) w):=by
 have HE:=Lib.hid (Env.new hx)
 have k:=HE.out.at2
 have HA:=Lib.hid ha
 clear ha
 clear hx
 simp only[TV.agg]
 go_enter Tryz.func273,Tryz.ntmps273
 go_wp2_with fail
 refine(valueOr_at x.a2 T.joi c 0 z _ HE.out.tab.joi HA.out hz).mono ?_
 rintro e w1 ⟨rfl,hb⟩
 have HB:=Lib.hid (HE.out.step hb)
 clear hb k
 go_wp2
 go_ret
 exact⟨rfl,HB.out.bel⟩
set_option maxHeartbeats 2000000 in
theorem bidi_at (x : TV) (T : Tb) (c z : Int) (w : World) (hx : TabV w x T) (ha : ascB 0 T.bid = true) (hz : Hid (bidT T c = z)) :
  Calls Tryz.prog 170 #[x.agg,.int .i64 c] w (Gives (.int .i64 z) w):=by
 have HE:=Lib.hid ((Env.new hx).step (drew_one _))
 have k:=(Env.new hx).at3
 have HA:=Lib.hid ha
 obtain⟨fc,h1⟩:∃z,Hid (fixC c=z):=⟨_,rfl⟩
 obtain⟨fb,h2⟩:∃z,Hid (fixB c=z):=⟨_,rfl⟩
 obtain⟨fs,h3⟩:∃z,Hid (fixS c=z):=⟨_,rfl⟩
 obtain⟨ft,h4⟩:∃z,Hid (fixT c=z):=⟨_,rfl⟩
 have hzz:Hid ((val T.bid c).getD fb=z):=by unfold Hid;rw[←hz.out,←h2.out];rfl
 have hfld:∀w,(Instr.field 185 (.agg #[.int .i64 fc,.int .i64 fb,.int .i64 fs,.int .i64 ft]) 1).run Tryz.prog w = .ok (.int .i64 fb) w:=fun _=>by kernel_rfl
 clear hx ha
 simp only[TV.agg]
 go_enter Tryz.func170,Tryz.ntmps170
 go_wp2_with fail
 go_region_held3 (fun w'=>w'.cell? ⟨w.heap.size,3,none⟩=some x.a3)
  (first
   | go_keep
   | exact((HE.out.step hb2).step hb3).at3
   | exact(HE.out.step hb2).at3)
  (first
   | (go_at_call 221;(with_reducible refine(fixed_at c fc fb fs ft _ h1 h2 h3 h4).mono ?_);rintro e w2 ⟨rfl,hb2⟩)
   | (go_at_call 220;(with_reducible refine(valueOr_at x.a3 T.bid c fb z _ (HE.out.step hb2).tab.bid HA.out hzz).mono ?_);rintro e w3 ⟨rfl,hb3⟩))
 all_goals
  go_wp2
  go_ret
  exact⟨rfl,((HE.out.step hb2).step hb3).bel⟩
theorem opens_length (T:Tb) (l:List Int):(opens T l).length=l.length:=by simp[opens]
theorem opens_at (T:Tb) (l:List Int) (k:Nat) (hk:k<l.length):openA (opens T l) k=decide ((l.map (clsT T)).getD k 0≠0):=by
 unfold openA opens
 simp[List.getD,List.getElem?_eq_getElem hk]
theorem odd_open (bs:List Bool) (k:Nat):decide ((edgesN bs k).length%2=1)=openB bs k:=by
 rw[edges_odd]
 cases openB bs k<;>simp
set_option maxRecDepth 100000 in
set_option maxHeartbeats 4000000 in
theorem runs_at (x : TV) (T : Tb) (p : Option Addr) (cap : Nat) (zs : List Int) (E : Int) (L : List Int) (w : World) (hx : TabV w x T) (hr : Rsv w) (hin : IntsIn w p zs) (hl : zs.length ≤ 17592186043904)
  (hE:Hid (accE T zs=E)) (hL:Hid (runsL T zs=L)) :
  Calls Tryz.prog 169 #[x.agg,.slice p zs.length cap] w (LRet L E w):=by
 have HE:=Lib.hid (Env.new hx)
 have HI:=Lib.hid hin
 have HR:=Lib.hid hr
 obtain⟨C,hC⟩:∃C,Hid (clsL T zs=C):=⟨_,rfl⟩
 obtain⟨n,hn⟩:∃n,zs.length=n:=⟨_,rfl⟩
 have hcc:=fun W hw hr' hi=>classesOf_at x T p cap zs E C W hw hr' hi hl hE hC
 rw[hn]at hl hcc ⊢
 have HN:=Lib.hid hn
 have HCC:=Lib.hid hcc
 clear hx hr hin hn hcc
 simp only[TV.agg]
 go_enter Tryz.func169,Tryz.ntmps169
 obtain⟨⟨k0,k1,k2,k3,k4,k5⟩,⟨k6,k7,k8,k9,k10,k11⟩⟩:=HE.out.box.load
 go_wp2_with fail
 refine(HCC.out _ HE.out.tab (HR.out.below HE.out.bel) (HI.out.below HE.out.bel)).mono ?_
 rintro e w1 ⟨vC,rfl,hc1,hb1⟩
 replace HE:=Lib.hid (HE.out.step hb1)
 by_cases h0:E=0
 ·subst h0
  have HV:Hid (checkT T=0):=(accE_ok hE.out).1
  have hn4:n≤4096:=by rw[←HN.out];exact(accE_ok hE.out).2.1
  have HCK:Hid (C=zs.map (clsT T)):=by unfold Hid;rw[←hC.out];unfold clsL;rw[hE.out,if_pos rfl]
  obtain⟨bs,hbs⟩:∃bs,Hid (opens T zs=bs):=⟨_,rfl⟩
  have HLL:Hid (L=runsS bs):=by unfold Hid;rw[←hL.out,←hbs.out];unfold runsL;rw[hE.out,if_pos rfl]
  have HBL:Hid (bs.length=n):=by unfold Hid;rw[←hbs.out,opens_length];exact HN.out
  obtain⟨pC,cC,hvC,hqC⟩:=hc1.inn
  have hcl:C.length=n:=by rw[HCK.out,List.length_map];exact HN.out
  rw[hcl]at hvC
  subst hvC
  have HQ:=Lib.hid hqC
  have HCL:=Lib.hid hcl
  clear hcl hqC hc1 hb1 k0 k1 k2 k3 k4 k5 k6 k7 k8 k9 k10 k11
  go_wp2
  go_loopw [8,9,10,22] (fun v _ _ i wr=>∃k:Nat,k≤n∧i = .int .i64 k∧Hid (Ints wr w1.heap.size v (edgesN bs k))∧Hid (Below w1.heap.size w1 wr)) (fun _ _ _ i _=>n-(intOf i).toNat)
  case atStart=>exact⟨0,Nat.zero_le _,rfl,Ints.nil _ _,Below.refl _ _⟩
  case round =>
   obtain⟨k,hk,rfl,ho,hb⟩:=hrel
   obtain⟨A,hA⟩:∃A,edgesN bs k=A:=⟨_,rfl⟩
   have hsn:=edges_succ bs k
   rw[hA]at ho hsn
   obtain⟨B,hB⟩:∃B,Hid (openB bs k=B):=⟨_,rfl⟩
   have hodd:=odd_open bs k
   rw[hA,hB.out]at hodd
   have hAk:A.length≤4097:=by rw[←hA];exact Nat.le_trans (edges_len bs k) (by omega)
   obtain⟨pb,cb,hv,hqb⟩:=ho.out.inn
   subst hv
   obtain⟨m,hm⟩:∃m,A.length=m:=⟨_,rfl⟩
   rw[hm]at hodd hAk ho ⊢
   have HM:=Lib.hid hm
   have HODD:=Lib.hid hodd
   have HSN:=Lib.hid hsn
   clear hqb hA hsn hodd hm
   by_cases hlt:k<n
   ·obtain⟨bc,offc,rfl,hck⟩:=(HQ.out.below hb.out) k (by rw[HCL.out];exact hlt)
    obtain⟨c,hc⟩:∃c,C.getD k 0=c:=⟨_,rfl⟩
    rw[hc]at hck
    have hoa:openA bs k=decide (c≠0):=by rw[←hbs.out,opens_at T zs k (by rw[HN.out];exact hlt),←HCK.out,hc]
    obtain⟨D,hD⟩:∃D,(c !=0)=D:=⟨_,rfl⟩
    have hoD:openA bs k=D:=by rw[hoa,←hD,Bool.eq_iff_iff];simp
    have HED:Hid (edgeA bs k=(B !=D)):=by unfold Hid edgeA;rw[hB.out,hoD]
    clear hc hoa hoD
    go_wp2_with fail
    refine(isOpen_any pb m cb B _ HODD (by omega)).mono ?_
    rintro e w3 ⟨rfl,rfl⟩
    cases B with
    | false =>
     cases D with
     | false =>
      have HAS:Hid (Ints wr w1.heap.size (.slice pb m cb) (edgesN bs (k+1))):=by
       unfold Hid;rw[HSN.out,HED.out];simpa using ho.out
      go_wp2
      go_roundw
      case rel=>exact⟨k+1,by omega,by go_num,HAS,hb⟩
      case measure=>simp[intOf];omega
     | true =>
      have hbz:=hb.out.size
      go_wp2_with (at_builtin;(refine wpList_append_int (.tmp 32) (.tmp 34) rfl rfl w1.heap.size (.slice pb m cb) A rfl ho.out k 1 _ rfl (by simp) (by have:=HM.out;omega) hbz ?_);intro v1 w3 ho1 hg1)
      have HAS:Hid (Ints w3 w1.heap.size v1 (edgesN bs (k+1))):=by
       unfold Hid;rw[HSN.out,HED.out];simpa using ho1
      have HB3:Hid (Below w1.heap.size w1 w3):=below_appI hb.out ho.out (Nat.le_refl _) hg1
      clear ho1 hg1 hbz
      go_wp2
      go_roundw
      case rel=>exact⟨k+1,by omega,by go_num,HAS,HB3⟩
      case measure=>simp[intOf];omega
    | true =>
     cases D with
     | false =>
      have hbz:=hb.out.size
      go_wp2_with (at_builtin;(refine wpList_append_int (.tmp 32) (.tmp 34) rfl rfl w1.heap.size (.slice pb m cb) A rfl ho.out k 1 _ rfl (by simp) (by have:=HM.out;omega) hbz ?_);intro v1 w3 ho1 hg1)
      have HAS:Hid (Ints w3 w1.heap.size v1 (edgesN bs (k+1))):=by
       unfold Hid;rw[HSN.out,HED.out];simpa using ho1
      have HB3:Hid (Below w1.heap.size w1 w3):=below_appI hb.out ho.out (Nat.le_refl _) hg1
      clear ho1 hg1 hbz
      go_wp2
      go_roundw
      case rel=>exact⟨k+1,by omega,by go_num,HAS,HB3⟩
      case measure=>simp[intOf];omega
     | true =>
      have HAS:Hid (Ints wr w1.heap.size (.slice pb m cb) (edgesN bs (k+1))):=by
       unfold Hid;rw[HSN.out,HED.out];simpa using ho.out
      go_wp2
      go_roundw
      case rel=>exact⟨k+1,by omega,by go_num,HAS,hb⟩
      case measure=>simp[intOf];omega
   ·obtain rfl:k=n:=by omega
    have HED:Hid (edgeA bs k=B):=by
     have:openA bs k=false:=by rw[←HBL.out];exact openB_end bs
     unfold Hid edgeA;rw[hB.out,this];simp
    have hRS:runsS bs=A++if edgeA bs k then [(k:Int)]else []:=by
     unfold runsS;rw[HBL.out];exact HSN.out
    rw[HED.out]at hRS
    have HRS:=Lib.hid hRS
    clear hRS
    go_wp2_with fail
    refine(isOpen_any pb m cb B _ HODD (by omega)).mono ?_
    rintro e w3 ⟨rfl,rfl⟩
    cases B with
    | false =>
     have HAL:Hid (L=A):=by unfold Hid;rw[HLL.out,HRS.out];simp
     go_wp2
     go_ret2
     exact⟨_,rfl,by rw[HAL.out];exact ho.out.mono HE.out.bel.size,HE.out.bel.trans (hb.out.mono HE.out.bel.size)⟩
    | true =>
     have HAL:Hid (L=A++[(k:Int)]):=by unfold Hid;rw[HLL.out,HRS.out];simp
     have hbz:=hb.out.size
     go_wp2_with (at_builtin;(refine wpList_append_int (.tmp 39) (.tmp 42) rfl rfl w1.heap.size (.slice pb m cb) A rfl ho.out k 1 _ rfl (by simp) (by have:=HM.out;omega) hbz ?_);intro v1 w3 ho1 hg1)
     have HO1:=Lib.hid ho1
     have HB3:Hid (Below w1.heap.size w1 w3):=below_appI hb.out ho.out (Nat.le_refl _) hg1
     clear ho1 hg1 hbz
     go_wp2
     go_ret2
     exact⟨_,rfl,by rw[HAL.out];exact HO1.out.mono HE.out.bel.size,HE.out.bel.trans (HB3.out.mono HE.out.bel.size)⟩
 ·have d0:(E !=0)=true:=by simp[h0]
  have HLL:Hid (L=[]):=by unfold Hid;rw[←hL.out];unfold runsL;rw[hE.out,if_neg h0]
  clear h0 hc1 hb1 k0 k1 k2 k3 k4 k5 k6 k7 k8 k9 k10 k11
  go_wp2
  go_ret2
  rw[HLL.out]
  exact⟨_,rfl,Ints.nil _ _,HE.out.bel⟩
end Go.Proofs.YtblcoicaeeiojaaGreatDoor
namespace Go.Proofs.YtblcoicaeeiojaaGreatDoor
theorem il1:toaR veT (ByteArray.mk #[69,120,97,109,112,108,101]).data.toList=([101,120,97,109,112,108,101],0,0):=by decide +kernel
theorem il2:toaR veT (ByteArray.mk #[97,46,46,98]).data.toList=([],1,10):=by decide +kernel
theorem il3:toaR veT (ByteArray.mk #[120,110,45,45,57]).data.toList=([],0,12):=by decide +kernel
theorem il4:strOfNums [101,120,97,109,112,108,101]=ByteArray.mk #[101,120,97,109,112,108,101]:=by decide +kernel
end Go.Proofs.YtblcoicaeeiojaaGreatDoor
namespace Go.Proofs.YtblcoicaeeiojaaGreatDoor
open Go.RowKit
theorem cref_at (x : TV) (T : Tb) (p : Option Addr) (cap : Nat) (zs : List Int) (E : Int) (w : World) (hx : TabV w x T) (hr : Rsv w) (hin : IntsIn w p zs) (hl : zs.length ≤ 17592186043904) (hE : Hid (accE T zs = E)) :
  Calls Tryz.prog 238 #[x.agg,.slice p zs.length cap] w (Gives (.int .i64 E) w):=by
 obtain⟨RL,hRL⟩:∃L,Hid (runsL T zs=L):=⟨_,rfl⟩
 have hac:=fun W (h1:TabV W x T) h2 h3=>runs_at x T p cap zs E RL W h1 h2 h3 hl hE hRL
 have HR:=Lib.hid hr
 have HE:=Lib.hid (Env.new hx)
 have HI:=Lib.hid hin
 obtain⟨n,hn⟩:∃n,zs.length=n:=⟨_,rfl⟩
 rw[hn]at hl hac ⊢
 have HAC:=Lib.hid hac
 clear hx hin hn hr hac
 simp only[TV.agg]
 go_enter Tryz.func238,Tryz.ntmps238
 obtain⟨⟨k0,k1,k2,k3,k4,k5⟩,⟨k6,k7,k8,k9,k10,k11⟩⟩:=HE.out.box.load
 go_wp2_with fail
 refine(HAC.out _ HE.out.tab (HR.out.below HE.out.bel) (HI.out.below HE.out.bel)).mono ?_
 rintro e w1 ⟨v0,rfl,_,hb1⟩
 replace HE:=Lib.hid (HE.out.step hb1)
 clear hb1 k0 k1 k2 k3 k4 k5 k6 k7 k8 k9 k10 k11
 go_wp2
 go_ret
 exact⟨rfl,HE.out.bel⟩
set_option maxRecDepth 100000 in
set_option maxHeartbeats 4000000 in
theorem ccheck_at (x : TV) (T : Tb) (p : Option Addr) (cap : Nat) (zs : List Int) (Z E : Int) (w : World) (hx : TabV w x T) (hr : Rsv w) (hin : IntsIn w p zs) (hl : zs.length ≤ 17592186043904) (hR : Hid (chkC T zs = (Z, E))) :
  Calls Tryz.prog 168 #[x.agg,.slice p zs.length cap] w (Gives (.tuple #[.int .i64 Z,.int .i64 E]) w):=by
 obtain⟨A,hA⟩:∃A,Hid (accE T zs=A):=⟨_,rfl⟩
 have HE:=Lib.hid (Env.new hx)
 have HI:=Lib.hid hin
 have HR:=Lib.hid hr
 have hac:=fun W (h1:TabV W x T) h2 h3=>cref_at x T p cap zs A W h1 h2 h3 hl hA
 obtain⟨n,hn⟩:∃n,zs.length=n:=⟨_,rfl⟩
 rw[hn]at hl hac ⊢
 have HN:=Lib.hid hn
 have HAC:=Lib.hid hac
 clear hx hin hn hr hac
 simp only[TV.agg]
 go_enter Tryz.func168,Tryz.ntmps168
 obtain⟨⟨k0,k1,k2,k3,k4,k5⟩,⟨k6,k7,k8,k9,k10,k11⟩⟩:=HE.out.box.load
 go_wp2_with fail
 refine(HAC.out _ HE.out.tab (HR.out.below HE.out.bel) (HI.out.below HE.out.bel)).mono ?_
 rintro e w1 ⟨rfl,hb1⟩
 replace HE:=Lib.hid (HE.out.step hb1)
 clear hb1
 clear k0 k1 k2 k3 k4 k5 k6 k7 k8 k9 k10 k11
 by_cases h0:A=0
 ·subst h0
  have hn4:n≤4096:=by rw[←HN.out];exact(accE_ok hA.out).2.1
  have HSC:Hid (ascB 0 T.scr=true):=(r2_sp (check_rules (accE_ok hA.out).1).2.1).2.2.2.2.1
  obtain⟨K,hK⟩:∃K,Hid (zs.any (kanB T)=K):=⟨_,rfl⟩
  obtain⟨Y,hY⟩:∃K,Hid (zs.any arB=K):=⟨_,rfl⟩
  obtain⟨X,hX⟩:∃K,Hid (zs.any exB=K):=⟨_,rfl⟩
  obtain⟨⟨k0,k1,k2,k3,k4,k5⟩,⟨k6,k7,k8,k9,k10,k11⟩⟩:=HE.out.box.load
  go_wp2_with fail
  refine(ccont_at x T p n cap zs K Y X _ HE.out.tab HSC.out (HI.out.below HE.out.bel) HN hl hK hY hX).mono ?_
  rintro e w2 ⟨rfl,hb⟩
  replace HE:=Lib.hid (HE.out.step hb)
  clear hb
  clear k0 k1 k2 k3 k4 k5 k6 k7 k8 k9 k10 k11
  have hc:=CurB.new w2 K Y X 192
  obtain⟨z0,z1,z2,z3,z4,z5,z6⟩:=CurB.new w2 false false false 192
  go_upto_region 5 with(fail)
  clear z0 z1 z2 z3 z4 z5 z6
  have hb0:Below w2.heap.size w2 (w2.alloc (.cells #[.bool K,.bool Y,.bool X] 192)):=(Below.refl _ _).alloc (Nat.le_refl _) _
  replace HE:=Lib.hid (HE.out.step hb0)
  have HC:=Lib.hid hc
  clear hb0 hc
  generalize (w2.alloc (.cells #[.bool K,.bool Y,.bool X] 192))=W3 at HE HC ⊢
  generalize w2.heap.size=gb at HC ⊢
  go_wp2
  go_loopw [20] (fun i wr=>Hid (CurB wr gb K Y X)∧∃k:Nat,k≤n∧i = .int .i64 k∧Hid (∀j,j<k→ctxB T zs j=true)∧Hid (Env w x T wr)) (fun i _=>n-(intOf i).toNat)
  case atStart=>exact⟨HC,0,Nat.zero_le _,rfl,fun j hj=>by omega,HE⟩
  case round =>
   obtain⟨hc,k,hk,rfl,hgd,he⟩:=hrel
   by_cases hlt:k<n
   ·have hkl:k<zs.length:=by rw[HN.out];exact hlt
    obtain⟨B,hB⟩:∃B,Hid (ctxB T zs k=B):=⟨_,rfl⟩
    have hB2:=hB.out
    obtain⟨y0,y1,y2,y3,y4,y5,y6⟩:=hc.out
    obtain⟨⟨k0,k1,k2,k3,k4,k5⟩,⟨k6,k7,k8,k9,k10,k11⟩⟩:=he.out.box.load
    go_wp2_with fail
    refine(cisp_at x T p n cap zs k K Y X B _ he.out.tab HSC.out (HI.out.below he.out.bel) HN hlt hn4 hK hY hX hB).mono ?_
    rintro e w2 ⟨rfl,hb⟩
    replace he:=Lib.hid (he.out.step hb)
    replace hc:=Lib.hid (hc.out.below hb)
    clear y0 y1 y2 y3 y4 y5 y6
    clear hb
    clear k0 k1 k2 k3 k4 k5 k6 k7 k8 k9 k10 k11
    cases B with
    | true =>
     have HGD2:Hid (∀j,j<k+1→ctxB T zs j=true):=fun j hj=>by
      by_cases e:j=k
      ·rw[e];exact hB2
      ·exact hgd.out j (by omega)
     clear hB2
     go_wp2
     go_roundw
     case rel=>exact⟨hc,k+1,by omega,by go_num,HGD2,he⟩
     case measure=>first|(simp[intOf];done)|(simp[intOf];omega)
    | false =>
     have hbd:badC T zs zs.length 0=some k:=badC_first zs.length 0 k (by omega) (by omega) (fun j _ h=>hgd.out j h) hB2
     have hR2:=hR.out
     unfold chkC at hR2
     rw[if_neg (by rw[hA.out];simp),hbd]at hR2
     injection hR2 with e1 e2
     subst e1
     subst e2
     clear hB2 hbd
     go_wp2
     go_ret2
     exact⟨rfl,he.out.bel⟩
   ·obtain rfl:k=n:=by omega
    have hbd:badC T zs zs.length 0=none:=(badC_none T zs _ 0).2 fun j _ h=>hgd.out j (by rw[HN.out]at h;omega)
    have hR2:=hR.out
    unfold chkC at hR2
    rw[if_neg (by rw[hA.out];simp),hbd]at hR2
    injection hR2 with e1 e2
    subst e1
    subst e2
    clear hbd
    go_wp2
    go_ret2
    exact⟨rfl,he.out.bel⟩
 ·have d0:(A !=0)=true:=by simp[h0]
  have hR2:=hR.out
  unfold chkC at hR2
  rw[if_pos (by rw[hA.out];exact h0),hA.out]at hR2
  injection hR2 with e1 e2
  subst e1
  subst e2
  clear h0
  go_wp2
  go_ret2
  exact⟨rfl,HE.out.bel⟩
def CapOf (x:TV):Prop:=∀p n c,x.a9 = .slice p n c→n≤c
structure LEnv (w0:World) (g:Nat) (x:TV) (T:Tb) (w:World):Prop where
 tab:TabV w x T
 box:BoxT w g x
 bel:Below w0.heap.size w0 w
theorem LEnv.step {w0 w w':World} {g:Nat} {x:TV} {T:Tb} (h:LEnv w0 g x T w) (hb:Below w.heap.size w w'):LEnv w0 g x T w' :=
 ⟨h.tab.below hb,h.box.below hb,h.bel.trans (hb.mono h.bel.size)⟩
theorem Ints.row {w : World} {B : Nat} {v : Value} {xs : List Int} (h : Ints w B v xs) (hn : 0 < xs.length) :
  ∃g c,v = .slice (some ⟨g,0,none⟩) xs.length c∧B≤g∧g<w.heap.size∧(∀k,k<xs.length→w.cell? ⟨g,k,none⟩=some (.int .i64 (xs.getD k 0)))∧(∀k,w.frozen? ⟨g,k,none⟩=false):=by
 have hh:=h
 unfold Ints at hh
 obtain⟨h1,h2⟩:=h
 rcases h2 with⟨rfl,h3⟩|⟨g,cap,cur,rfl,hB,hg,hnc,hc,hs,htk⟩
 ·omega
 ·rw[Nat.mul_one]at htk
  exact⟨g,cap,rfl,hB,(World.ownsRow.lt hh g rfl).2,fun k hk=>row_cells hg htk k hk,fun k=>World.ownsRow.frozenAt hh k⟩
theorem Ints.set {w:World} {B g n c:Nat} {xs:List Int} (h:Ints w B (.slice (some ⟨g,0,none⟩) n c) xs) (hn:xs.length=n) (k:Nat) (z:Int):Ints (w.setCell ⟨g,k,none⟩ (.int .i64 z)) B (.slice (some ⟨g,0,none⟩) n c) (xs.set k z):=by
 subst hn
 unfold Ints at h ⊢
 rw[List.length_set,List.map_set]
 exact(World.ownsRow.stored h k _).1
abbrev boxF (g:Nat) (x:TV) (w:World):Prop:=w.cell? ⟨g,0,none⟩=some x.a0∧w.cell? ⟨g,1,none⟩=some x.a1∧w.cell? ⟨g,2,none⟩=some x.a2∧w.cell? ⟨g,3,none⟩=some x.a3∧w.cell? ⟨g,4,none⟩=some x.a4∧w.cell? ⟨g,5,none⟩=some x.a5∧w.cell? ⟨g,6,none⟩=some x.a6∧w.cell? ⟨g,7,none⟩=some x.a7∧w.cell? ⟨g,8,none⟩=some x.a8∧w.cell? ⟨g,9,none⟩=some x.a9∧w.cell? ⟨g,10,none⟩=some x.a10∧w.cell? ⟨g,11,none⟩=some x.a11
theorem BoxT.flat {w:World} {g:Nat} {x:TV} (h:BoxT w g x):boxF g x w:=by
 obtain⟨⟨k0,k1,k2,k3,k4,k5⟩,⟨k6,k7,k8,k9,k10,k11⟩⟩:=h.load
 exact⟨k0,k1,k2,k3,k4,k5,k6,k7,k8,k9,k10,k11⟩
def veX:TV:=⟨.slice none 0 0,.slice none 0 0,.slice none 0 0,.slice none 0 0,.slice none 0 0,.slice none 0 0,.slice none 0 0,.slice none 0 0,.slice none 0 0,.slice none 0 0,.slice none 0 0,.slice none 0 0⟩
theorem ve_sp (w:World):SpV w (.slice none 0 0) []:=⟨none,0,rfl,fun k hk=>absurd hk (Nat.not_lt_zero _),by simp⟩
theorem ve_mp (w:World):MpV w (.slice none 0 0) []:=⟨none,0,rfl,fun k hk=>absurd hk (Nat.not_lt_zero _),by simp⟩
theorem ve_in (w:World):InV w (.slice none 0 0) []:=⟨none,0,rfl,fun k hk=>absurd hk (Nat.not_lt_zero _),by simp⟩
theorem ve_tab (w:World):TabV w veX veT:=⟨ve_sp w,ve_sp w,ve_sp w,ve_sp w,ve_sp w,ve_sp w,ve_sp w,ve_mp w,ve_mp w,ve_mp w,ve_in w,ve_mp w⟩
def RInv (bs:List Bool) (i:Nat) (L:List Int):Prop :=
 (openB bs i=false∧L=edgesN bs i)∨
 (openB bs i=true∧∃e,i≤e∧(∀x,i≤x→x<e→openA bs x=true)∧openA bs e=false∧L=edgesN bs (e+1))
theorem RInv.zero (bs:List Bool):RInv bs 0 [] := .inl ⟨rfl,rfl⟩
theorem RInv.run {bs:List Bool} {i k:Nat} {L:List Int} (h:RInv bs i L) (hik:i<k) (hb:openB bs i=false) (h1:∀m,i≤m→m<k→openA bs m=true) (h2:openA bs k=false):RInv bs (i+1) (L++[(i:Int),(k:Int)]):=by
 rcases h with⟨_,hL⟩|⟨h3,_⟩
 ·refine .inr ⟨h1 i (Nat.le_refl _) hik,k,by omega,fun x a b=>h1 x (by omega) b,h2,?_⟩
  rw[hL];exact(edges_run bs i k hik hb h1 h2).symm
 ·rw[hb]at h3;cases h3
theorem RInv.fin {bs:List Bool} {L:List Int} (h:RInv bs bs.length L):L=runsS bs:=by
 have ha:=openB_end bs
 unfold runsS
 rcases h with⟨h1,h2⟩|⟨h1,e,h2,h3,h4,h5⟩
 ·rw[edges_succ];unfold edgeA;rw[h1,ha,h2];simp
 ·have:e=bs.length:=by
   rcases Nat.lt_or_ge bs.length e with h|h
   ·have:=h3 _ (Nat.le_refl _) h;rw[ha]at this;cases this
   ·omega
  subst this;exact h5
theorem RInv.len {bs:List Bool} {i:Nat} {L:List Int} (h:RInv bs i L) (hb:openB bs i=false):L.length≤i:=by
 rcases h with⟨_,h2⟩|⟨h1,_⟩
 ·rw[h2];exact edges_len _ _
 ·rw[hb]at h1;cases h1
def NRet (L:List Int) (w:World) (e:Ending) (w':World):Prop:=∃v,e = .returned v∧Ints w' w.heap.size v L∧Below w.heap.size w w'
structure BSt (w0:World) (x:TV) (T:Tb) (g n c:Nat) (O:List Int) (w:World):Prop where
 env:Env w0 x T w
 row:Ints w (w0.heap.size+1) (.slice (some ⟨g,0,none⟩) n c) O
 len:O.length=n
theorem BSt.step {w0 w w':World} {x:TV} {T:Tb} {g n c:Nat} {O:List Int} (h:BSt w0 x T g n c O w) (hb:Below w.heap.size w w'):BSt w0 x T g n c O w':=⟨h.env.step hb,h.row.below hb,h.len⟩
theorem BSt.cells {w0 w:World} {x:TV} {T:Tb} {g n c:Nat} {O:List Int} (h:BSt w0 x T g n c O w) (hn:0<n):w0.heap.size<g∧g<w.heap.size∧(∀k,k<n→w.cell? ⟨g,k,none⟩=some (.int .i64 (O.getD k 0)))∧∀k,w.frozen? ⟨g,k,none⟩=false:=by
 obtain⟨g',c',e,h1,h2,h3,h4⟩:=h.row.row (by rw[h.len];exact hn)
 cases e
 exact⟨h1,h2,fun k hk=>h3 k (by rw[h.len];exact hk),h4⟩
theorem BSt.swap {w0 w : World} {x : TV} {T : Tb} {g n c : Nat} {O : List Int} (h : BSt w0 x T g n c O w) (hx : TabV w0 x T) (k : Nat) (hk : k + 1 < n) {A B : Int} (hA : O.getD k 0 = A) (hB : O.getD (k + 1) 0 = B) :
  BSt w0 x T g n c (swp O k) (((w.setCell ⟨g,k,none⟩ (.int .i64 B)).setCell ⟨g,k+1,none⟩ (.int .i64 A)).drew):=by
 have hlo:=(h.cells (by omega)).1
 have hg:w.grownBy ((w.setCell ⟨g,k,none⟩ (.int .i64 B)).setCell ⟨g,k+1,none⟩ (.int .i64 A)) (some g):=grownBy_trans (grownBy_store w g k _) (grownBy_store _ g (k+1) _)
 have he:=(h.env.grown hx hg hlo).step (drew_one _)
 refine⟨he,?_,by rw[swp_length];exact h.len⟩
 refine World.ownsRow.drew ?_
 unfold swp
 rw[hA,hB]
 exact(h.row.set h.len k B).set (by simp[h.len]) (k+1) A
theorem wp_append_ints_at {w : World} {o : Oper} {a : Act} {K : Act → World → Prop} {Q : Exit → Act → World → Prop} (s x : Operand)
  (ho:o.op = .call { callee := .builtin .append,args:=#[s,x],argTypes:=#[22,22]})
  (base:Nat) (v:Value) (xs:List Int) (hs:a.eval s=v) (hown:Ints w base v xs)
  (p:Option Addr) (m c:Nat) (ys:List Int) (hm:ys.length=m) (hx:a.eval x = .slice p m c) (hin:IntsIn w p ys)
  (hlen:xs.length+ys.length≤17592186043904) (hbase:base≤w.heap.size)
  (h:∀v' w',Ints w' base v' (xs++ys)→w.grownBy w' v.ownBlock→(v'.ownBlock=v.ownBlock∨v'.ownBlock=some w.heap.size)→K (a.put o.dst v') w'):o.wp Tryz.prog a w K Q:=by
 subst hm
 obtain⟨i0,hi,hz0,hz1,hz2⟩:=info_parts Tryz.info3
 cases p with
 | none =>
  have hy:ys=[]:=by
   cases ys with
   | nil=>rfl
   | cons y r=>obtain⟨_,_,e,_⟩:=hin 0 (by simp);cases e
  subst hy
  have hr:=run_append_nil (P:=Tryz.prog) base 22 o.type 3 i0 1 Tryz.underlying22 hi v xs.length _ c hown
  unfold Oper.wp execOp
  simp only[ho,resolve,invoke,builtin,Sem.run_bind,Sem.run_pure,Result.andThen_ok,List.map_toArray,List.map_cons,List.map_nil,hs,hx,List.length_nil,hr]
  exact h v w (by simpa using hown) (grownBy_refl _ _) (.inl rfl)
 | some ad =>
  have hcells:∀j u,(ys.map (Value.int .i64))[j]? = some u→w.cell? (ad.add j)=some u:=by
   intro j u hu
   rw[List.getElem?_map]at hu
   cases hj:ys[j]? with
   | none=>rw[hj]at hu;cases hu
   | some y =>
    rw[hj]at hu
    simp only[Option.map_some,Option.some.injEq]at hu
    obtain⟨hjl,hje⟩:=List.getElem?_eq_some_iff.1 hj
    obtain⟨b,off,e,hc⟩:=hin j hjl
    simp only[Option.some.injEq]at e
    subst e
    rw[Addr.add_lit,hc,←hu]
    simp[List.getD,hj]
  have hone:∀u∈ys.map (Value.int .i64),u.oneCell'=true:=by
   intro u hu
   obtain⟨y,_,rfl⟩:=List.mem_map.1 hu
   rfl
  obtain⟨v',w',hrun,h2,h3,_,h5⟩:=run_append_own_at (P:=Tryz.prog) w base 22 o.type 3 i0 _ 1 8 Tryz.underlying22 hi hz0 hz1 hz2 rfl (by decide) v xs.length _ hown
   ad ys.length c (ys.map (Value.int .i64)) (by simp) hcells hone (by unfold maxLen;omega) (by omega) hbase
  unfold Oper.wp execOp
  simp only[ho,resolve,invoke,builtin,Sem.run_bind,Sem.run_pure,Result.andThen_ok,List.map_toArray,List.map_cons,List.map_nil,hs,hx,hrun]
  exact h v' w' (by unfold Ints;simpa using h2) h3 h5
theorem wpList_append_ints_at {w : World} {ops : Array Oper} {rest : List Oper} {o : Oper} {a : Act} {Q : Exit → Act → World → Prop} (s x : Operand)
  (ho:o.op = .call { callee := .builtin .append,args:=#[s,x],argTypes:=#[22,22]})
  (hw:Region.wanted o (yielded ops a.tmps)=true)
  (base:Nat) (v:Value) (xs:List Int) (hs:a.eval s=v) (hown:Ints w base v xs)
  (p:Option Addr) (m c:Nat) (ys:List Int) (hm:ys.length=m) (hx:a.eval x = .slice p m c) (hin:IntsIn w p ys)
  (hlen:xs.length+ys.length≤17592186043904) (hbase:base≤w.heap.size)
  (h:∀v' w',Ints w' base v' (xs++ys)→w.grownBy w' v.ownBlock→(v'.ownBlock=v.ownBlock∨v'.ownBlock=some w.heap.size)→wpList Tryz.prog ops Q rest (a.put o.dst v') w'):wpList Tryz.prog ops Q (o::rest) a w:=by
 unfold wpList
 rw[if_pos hw]
 exact .inl (wp_append_ints_at s x ho base v xs hs hown p m c ys hm hx hin hlen hbase h)
def AppPost (B:Nat) (v:Value) (ys:List Int) (w:World) (e:Ending) (w':World):Prop :=
 ∃v',e = .returned v'∧Ints w' B v' ys∧w.grownBy w' v.ownBlock∧∀b,b<w.heap.size→v.ownBlock≠some b→v'.ownBlock≠some b
structure Chn (B:Nat) (w1:World) (v u:Value) (ys:List Int) (wr:World):Prop where
 row:Ints wr B u ys
 grown:w1.grownBy wr v.ownBlock
 off:∀b,b<w1.heap.size→v.ownBlock≠some b→u.ownBlock≠some b
theorem Chn.start {B:Nat} {w1:World} {v:Value} {xs:List Int} (h:Ints w1 B v xs):Chn B w1 v v xs w1:=⟨h,grownBy_refl _ _,fun _ _ h=>h⟩
theorem Chn.step {B:Nat} {w1 wr w':World} {v u:Value} {ys:List Int} (h:Chn B w1 v u ys wr) (hb:Below wr.heap.size wr w'):Chn B w1 v u ys w' :=
 ⟨h.row.below hb,grownBy_of_below h.grown hb,h.off⟩
theorem Chn.write {B:Nat} {w1 wr w':World} {v u u':Value} {ys zs:List Int} (h:Chn B w1 v u ys wr) (hr:Ints w' B u' zs) (hg:wr.grownBy w' u.ownBlock) (ho:∀b,b<wr.heap.size→u.ownBlock≠some b→u'.ownBlock≠some b):Chn B w1 v u' zs w':=by
 refine⟨hr,⟨hg.os.trans h.grown.os,hg.tape.trans h.grown.tape,hg.output.trans h.grown.output,Nat.le_trans h.grown.size hg.size,fun i hi hne=>?_⟩,fun b hb hne=>ho b (Nat.lt_of_lt_of_le hb h.grown.size) (h.off b hb hne)⟩
 exact(hg.block i (Nat.lt_of_lt_of_le hi h.grown.size) (fun e=>h.off i hi (fun e2=>hne e2.symm) e.symm)).trans (h.grown.block i hi hne)
theorem off_new {v u:Value} {w:World} (h:u.ownBlock=v.ownBlock∨u.ownBlock=some w.heap.size):∀b,b<w.heap.size→v.ownBlock≠some b→u.ownBlock≠some b:=by
 intro b hb hne
 rcases h with e|e
 ·rw[e];exact hne
 ·rw[e];simp;omega
theorem BoxT.off {w w':World} {g:Nat} {x:TV} {row:Option Nat} (h:BoxT w g x) (hg:w.grownBy w' row) (hr:row≠some g):BoxT w' g x:=by
 obtain⟨⟨h0,h1,h2,h3,h4,h5⟩,⟨h6,h7,h8,h9,h10,h11⟩⟩:=h
 have key:∀i v,w.cell? ⟨g,i,none⟩=some v→w'.cell? ⟨g,i,none⟩=some v:=fun i v hc=>hg.cell hc (fun e=>hr e.symm)
 exact⟨⟨key _ _ h0,key _ _ h1,key _ _ h2,key _ _ h3,key _ _ h4,key _ _ h5⟩,⟨key _ _ h6,key _ _ h7,key _ _ h8,key _ _ h9,key _ _ h10,key _ _ h11⟩⟩
theorem Chn.box {B g:Nat} {w1 wr:World} {v u:Value} {ys:List Int} {x:TV} (h:Chn B w1 v u ys wr) (hx:BoxT w1 g x) (hne:v.ownBlock≠some g):BoxT wr g x:=hx.off h.grown hne
theorem Chn.bel {w0 w1 wr:World} {v u:Value} {xs ys:List Int} (h:Chn w0.heap.size w1 v u ys wr) (hv:Ints w1 w0.heap.size v xs) (hb:Below w0.heap.size w0 w1):Below w0.heap.size w0 wr:=hb.grown h.grown hb.size hv.base
theorem Chn.kept {B C:Nat} {w1 wr:World} {v u q:Value} {ys fl:List Int} (h:Chn B w1 v u ys wr) (hq:Ints w1 C q fl) (hne:∀b,q.ownBlock=some b→v.ownBlock≠some b):Ints wr C q fl:=by
 refine World.ownsRow.kept hq h.grown ?_
 cases hb:q.ownBlock with
 | none=>exact .inl rfl
 | some b=>exact .inr fun e=>hne b hb e.symm
theorem Chn.post {B:Nat} {w w1 wr:World} {v u:Value} {ys:List Int} (h:Chn B w1 v u ys wr) (hb:Below w.heap.size w w1):w.grownBy wr v.ownBlock∧∀b,b<w.heap.size→v.ownBlock≠some b→u.ownBlock≠some b :=
 ⟨grownBy_trans (below_grownBy hb _) h.grown,fun b hlt=>h.off b (Nat.lt_of_lt_of_le hlt hb.size)⟩
set_option maxRecDepth 100000 in
set_option maxHeartbeats 1000000 in
theorem clone_own (v : Value) (xs : List Int) (w : World) (hv : InV w v xs) :
  Calls Tryz.prog 264 #[v] w (NRet xs w):=by
 obtain⟨p,c,rfl,hin,hl⟩:=hv
 have HI:=Lib.hid hin
 cases p with
 | none =>
  have hx:xs=[]:=by
   cases xs with
   | nil=>rfl
   | cons y r=>obtain⟨_,_,e,_⟩:=hin 0 (by simp);cases e
  subst hx
  clear hin
  have hcmp:∀W,(binOp .eql 22 (.slice none 0 c) (.slice none 0 0)).run Tryz.prog W = .ok (.bool true) W:=fun W=>Lib.run_eql_slice_nil (P:=Tryz.prog) W 22 3 none 0 c 0 0 Tryz.underlying22
  go_enter Tryz.func264,Tryz.ntmps264
  go_wp2
  go_ret
  exact⟨_,rfl,Ints.nil _ _,Below.refl _ _⟩
 | some a =>
  have HE:=Lib.hid (World.ownsRow_lit (base:=w.heap.size) (e:=3) (size:=1) w #[] 0 (Nat.le_refl _) (by unfold maxLen;omega) rfl)
  have HB0:=Lib.hid ((Below.refl w.heap.size w).alloc (Nat.le_refl _) (.cells #[] 3))
  have HIa:=Lib.hid (HI.out.below HB0.out)
  clear hin
  have hcmp:∀W,(binOp .eql 22 (.slice (some a) xs.length c) (.slice none 0 0)).run Tryz.prog W = .ok (.bool false) W:=fun W=>Lib.run_eql_slice_nil (P:=Tryz.prog) W 22 3 (some a) xs.length c 0 0 Tryz.underlying22
  go_enter Tryz.func264,Tryz.ntmps264
  go_wp2_with (at_builtin;refine wpList_append_ints _ _ rfl rfl w.heap.size (.slice (some ⟨w.heap.size,0,none⟩) 0 0) [] (by rfl) (by exact HE.out) (some a) xs.length c xs rfl (by rfl) (by exact HIa.out) (by simp;omega) (by simp) ?_;intro v1 w1 ho1 hg1)
  have hb1:=HB0.out.grown hg1 (by simp) (fun k e=>by have e2:some w.heap.size=some k:=e;injection e2 with e2;omega)
  have ho2:Ints w1 w.heap.size v1 xs:=ho1
  obtain⟨p1,c1,hv1,hin1⟩:=ho2.inn
  have HO:=Lib.hid ho2
  have HB1:=Lib.hid hb1
  obtain⟨n,hn⟩:∃n,xs.length=n:=⟨_,rfl⟩
  rw[hn]at hv1
  subst hv1
  clear ho1 ho2 hg1 hin1 hb1 hn hl
  go_wp2
  go_ret
  exact⟨_,rfl,HO.out,HB1.out⟩
theorem NRet.step {L:List Int} {w w1 w2:World} {e:Ending} (hb:Below w.heap.size w w1) (h:NRet L w1 e w2):NRet L w e w2:=by
 obtain⟨v,e1,ho,hb2⟩:=h
 exact⟨v,e1,ho.mono hb.size,hb.trans (hb2.mono hb.size)⟩
set_option maxHeartbeats 1000000 in
theorem seqOf_own (v : Value) (l : List Mp) (c : Int) (w : World) (hv : MpV w v l) (ha : ascI 0 1114111 (froms l) = true) :
  Calls Tryz.prog 224 #[v,.int .i64 c] w (NRet (findM l c) w):=by
 obtain⟨p,cp,rfl,hin,hn⟩:=hv
 have HI:=Lib.hid hin
 have HA:=Lib.hid ha
 clear hin ha
 cases hh:hasM l c with
 | false =>
  have HF:Hid (findM l c=[]):=findM_nil hh
  have HH:=Lib.hid hh
  clear hh
  go_enter Tryz.func224,Tryz.ntmps224
  go_wp2_with fail
  refine(findMp_any _ l c _ ⟨p,cp,rfl,HI.out,hn⟩ HA.out).mono ?_
  rintro e w1 ⟨i,rfl,hi,hf,hb⟩
  rw[HH.out]
  have HB:=Lib.hid hb
  clear hb hf
  go_wp2
  go_ret
  rw[HF.out]
  exact⟨_,rfl,Ints.nil _ _,HB.out⟩
 | true =>
  have HH:=Lib.hid hh
  clear hh
  go_enter Tryz.func224,Tryz.ntmps224
  go_wp2_with fail
  refine(findMp_any _ l c _ ⟨p,cp,rfl,HI.out,hn⟩ HA.out).mono ?_
  rintro e w1 ⟨i,rfl,hi,hf,hb⟩
  obtain⟨hlt,hfr,hto⟩:=hf HH.out
  rw[HH.out]
  obtain⟨g,off,u,rfl,hc1,hc2,hu⟩:=(HI.out.below hb) i hlt
  have HU:=Lib.hid hu
  have HB:=Lib.hid hb
  have HT:=Lib.hid hto
  clear hb hc1 hfr hu hto
  go_wp2_with fail
  refine(clone_own u _ _ HU.out).mono ?_
  rintro e w2 ⟨v2,rfl,ho2,hb2⟩
  have HR:Hid (Ints w2 w.heap.size v2 (findM l c)):=by unfold Hid;rw[HT.out];exact ho2.mono HB.out.size
  have HB2:=Lib.hid (HB.out.trans (hb2.mono HB.out.size))
  clear ho2 hb2 hc2
  go_wp2
  go_ret
  exact⟨_,rfl,HR.out,HB2.out⟩
set_option maxHeartbeats 2000000 in
theorem tdecomp_own (x : TV) (T : Tb) (c : Int) (xs : List Int) (w : World) (hx : TabV w x T) (ha : ascI 0 1114111 (froms T.dec) = true) (hxs : Hid (findM T.dec c = xs)) :
  Calls Tryz.prog 266 #[x.agg,.int .i64 c] w (NRet xs w):=by
 have HE:=Lib.hid (Env.new hx)
 have k:=HE.out.at9
 have HA:=Lib.hid ha
 clear ha
 have hcall:=fun W h=>seqOf_own x.a9 T.dec c W h HA.out
 rw[hxs.out]at hcall
 have HC:=Lib.hid hcall
 clear hcall
 clear hx
 simp only[TV.agg]
 go_enter Tryz.func266,Tryz.ntmps266
 go_wp2_with fail
 refine(HC.out _ HE.out.tab.dec).mono ?_
 rintro e w1 ⟨v1,rfl,ho1,hb⟩
 have HB:=Lib.hid (HE.out.step hb)
 have HO:=Lib.hid (ho1.mono HE.out.bel.size)
 clear hb k ho1
 go_wp2
 go_ret
 exact⟨_,rfl,HO.out,HB.out.bel⟩
theorem badK_first {T:Tb}:∀(m:Nat) (l:List Int) (k:Nat),k<l.length→(∀j,j<k→staT T (l.getD j 0)≠0)→staT T (l.getD k 0)=0→badK T m l=some (m+k)
 | m,[],k,h,_,_=>by simp at h
 | m,c::r,0,h,_,hz=>by
  rw[badK,if_pos (by simpa using hz)];rfl
 | m,c::r,k+1,h,hg,hz=>by
  have h0:=hg 0 (by omega)
  rw[badK,if_neg (by simpa using h0),badK_first (m+1) r k (by simpa using h) (fun j hj=>by have:=hg (j+1) (by omega);simpa only[List.getD_cons_succ] using this) (by simpa only[List.getD_cons_succ] using hz)]
  rw[show m+1+k=m+(k+1) by omega]
theorem badK_all {T:Tb} {l:List Int} (hg:∀j,j<l.length→staT T (l.getD j 0)≠0):badK T 0 l=none :=
 (badK_none 0 l).2 fun c hc=>by
  obtain⟨i,hi,rfl⟩:=List.getElem_of_mem hc
  have:=hg i hi
  rwa[show l.getD i 0=l[i] by simp[hi]]at this
theorem mapF_snoc (T:Tb) (l:List Int) (k:Nat) (h:k<l.length):mapF T (l.take (k+1))=mapF T (l.take k)++map1 T (l.getD k 0):=by
 rw[take_snoc_int l k h,mapF_append]
 unfold mapF
 simp
theorem map1_map {T:Tb} {c:Int} (h:staT T c=3):map1 T c=mapsT T c:=if_pos h
theorem map1_self {T:Tb} {c:Int} (h:staT T c=1∨staT T c=4):map1 T c=[c]:=by unfold map1;rw[if_neg (by omega),if_pos h]
theorem map1_none {T:Tb} {c:Int} (h1:staT T c≠3) (h:¬(staT T c=1∨staT T c=4)):map1 T c=[]:=by unfold map1;rw[if_neg h1,if_neg h]
theorem mapF_lenT {T:Tb} (hc:checkT T=0) {l:List Int} (hs:l.all scaB=true) (k:Nat):(mapF T (l.take k)).length≤18*k:=by
 have h1:=(mapF_sca hc (l.take k) (by
  rw[List.all_eq_true]at hs ⊢
  exact fun c h=>hs c (List.mem_of_mem_take h))).1
 have h2:(l.take k).length≤k:=by simp;omega
 omega
theorem mapR_acc {T:Tb} {l:List Int} (h:accE T l≠0):mapR T l=([],0,accE T l):=by unfold mapR;rw[if_pos h]
theorem mapR_bad {T:Tb} {l:List Int} {i:Nat} (h:accE T l=0) (hb:badK T 0 l=some i):mapR T l=([],i,16):=by unfold mapR;rw[if_neg (by omega),hb]
theorem mapR_end {T:Tb} {l:List Int} (h:accE T l=0) (hb:badK T 0 l=none):mapR T l=if 4096<(mapF T l).length then([],0,7) else(mapF T l,0,0):=by unfold mapR;rw[if_neg (by omega),hb]
theorem mapR_len (T:Tb) (l:List Int):(mapR T l).1.length≤4096:=by
 unfold mapR
 split
 ·simp
 ·cases badK T 0 l with
  | some i=>simp
  | none =>
   simp only
   split
   ·simp
   ·simp only;omega
theorem map_one (w:World) (c:Int):IntsIn (w.alloc (.cells #[.int .i64 c] 3)) (some ⟨w.heap.size,0,none⟩) [c]:=by
 intro k hk
 have:k=0:=by simp at hk;exact hk
 subst this
 exact⟨_,_,rfl,by simp[World.cell?_alloc_new]⟩
def MapRet (L:List Int) (K:Nat) (E:Int) (w:World) (e:Ending) (w':World):Prop :=
 ∃v,e = .returned (.tuple #[v,.int .i64 K,.int .i64 E])∧Ints w' w.heap.size v L∧Below w.heap.size w w'
end Go.Proofs.YtblcoicaeeiojaaGreatDoor
