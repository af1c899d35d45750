/-
  The walk of IdnaIdempotent (genIL.py).
-/
import Derived.Test.YtblcoicaeeiojaaGreatDoorSSiPmIdnA
import Derived.Test.YtblcoicaeeiojaaGreatDoorSSiPmIdnFix
import Derived.Test.YtblcoicaeeiojaaGreatDoorSSiTblJ
import Derived.Test.YtblcoicaeeiojaaGreatDoorSSiPmMapSpec
import Derived.Deep.RegionHeld3
set_option linter.unusedSimpArgs false
set_option linter.unusedVariables false
namespace Go.Proofs.YtblcoicaeeiojaaGreatDoor
open Go.RowKit
set_option maxRecDepth 100000 in
set_option maxHeartbeats 8000000 in
theorem idnaIdempotent_walk (p0 : Option Addr) (cap0 : Nat) (zs0 : List Int) (p1 : Option Addr) (cap1 : Nat) (zs1 : List Int) (w : World) (hin0 : IntsIn w p0 zs0) (hl0 : zs0.length ≤ 17592186043904) (hin1 : IntsIn w p1 zs1) (hl1 : zs1.length ≤ 17592186043904) (hr : Rsv w) :
  Calls Tryz.prog 6 #[.slice p0 zs0.length cap0,.slice p1 zs1.length cap1] w (Gives (.bool true) w):=by
 have HI0:=Lib.hid hin0
 have HL0:=Lib.hid hl0
 have HI1:=Lib.hid hin1
 have HL1:=Lib.hid hl1
 have HR:=Lib.hid hr
 clear hin0 hl0 hin1 hl1 hr
 go_enter Tryz.func6,Tryz.ntmps6
 go_wp2_with fail
 refine(tables_any p0 cap0 zs0 _ HI0.out HL0.out).mono ?_
 rintro e w1 ⟨⟨a0,a1,a2,a3,a4,a5,a6,a7,a8,a9,a10,a11⟩,T,rfl,htv,hm,hcap1,hb1⟩
 obtain⟨pa0,na0,qa0,hsl0⟩:Slc a0:=htv.cat.slc
 subst hsl0
 obtain⟨pa1,na1,qa1,hsl1⟩:Slc a1:=htv.cls.slc
 subst hsl1
 obtain⟨pa2,na2,qa2,hsl2⟩:Slc a2:=htv.joi.slc
 subst hsl2
 obtain⟨pa3,na3,qa3,hsl3⟩:Slc a3:=htv.bid.slc
 subst hsl3
 obtain⟨pa4,na4,qa4,hsl4⟩:Slc a4:=htv.scr.slc
 subst hsl4
 obtain⟨pa5,na5,qa5,hsl5⟩:Slc a5:=htv.sta.slc
 subst hsl5
 obtain⟨pa6,na6,qa6,hsl6⟩:Slc a6:=htv.ign.slc
 subst hsl6
 obtain⟨pa7,na7,qa7,hsl7⟩:Slc a7:=htv.ext.slc
 subst hsl7
 obtain⟨pa8,na8,qa8,hsl8⟩:Slc a8:=htv.map.slc
 subst hsl8
 obtain⟨pa9,na9,qa9,hsl9⟩:Slc a9:=htv.dec.slc
 subst hsl9
 obtain⟨pa10,na10,qa10,hsl10⟩:Slc a10:=htv.exc.slc
 subst hsl10
 obtain⟨pa11,na11,qa11,hsl11⟩:Slc a11:=htv.pro.slc
 subst hsl11
 have hba1:Below w1.heap.size w1 (w1.alloc (.cells (tabCells ⟨.slice pa0 na0 qa0,.slice pa1 na1 qa1,.slice pa2 na2 qa2,.slice pa3 na3 qa3,.slice pa4 na4 qa4,.slice pa5 na5 qa5,.slice pa6 na6 qa6,.slice pa7 na7 qa7,.slice pa8 na8 qa8,.slice pa9 na9 qa9,.slice pa10 na10 qa10,.slice pa11 na11 qa11⟩) 26)):=(Below.refl _ _).alloc (Nat.le_refl _) _
 have HT1:Hid (TabV (w1.alloc (.cells (tabCells ⟨.slice pa0 na0 qa0,.slice pa1 na1 qa1,.slice pa2 na2 qa2,.slice pa3 na3 qa3,.slice pa4 na4 qa4,.slice pa5 na5 qa5,.slice pa6 na6 qa6,.slice pa7 na7 qa7,.slice pa8 na8 qa8,.slice pa9 na9 qa9,.slice pa10 na10 qa10,.slice pa11 na11 qa11⟩) 26)) ⟨.slice pa0 na0 qa0,.slice pa1 na1 qa1,.slice pa2 na2 qa2,.slice pa3 na3 qa3,.slice pa4 na4 qa4,.slice pa5 na5 qa5,.slice pa6 na6 qa6,.slice pa7 na7 qa7,.slice pa8 na8 qa8,.slice pa9 na9 qa9,.slice pa10 na10 qa10,.slice pa11 na11 qa11⟩ T):=htv.below hba1
 have HX1:Hid (BoxT (w1.alloc (.cells (tabCells ⟨.slice pa0 na0 qa0,.slice pa1 na1 qa1,.slice pa2 na2 qa2,.slice pa3 na3 qa3,.slice pa4 na4 qa4,.slice pa5 na5 qa5,.slice pa6 na6 qa6,.slice pa7 na7 qa7,.slice pa8 na8 qa8,.slice pa9 na9 qa9,.slice pa10 na10 qa10,.slice pa11 na11 qa11⟩) 26)) w1.heap.size ⟨.slice pa0 na0 qa0,.slice pa1 na1 qa1,.slice pa2 na2 qa2,.slice pa3 na3 qa3,.slice pa4 na4 qa4,.slice pa5 na5 qa5,.slice pa6 na6 qa6,.slice pa7 na7 qa7,.slice pa8 na8 qa8,.slice pa9 na9 qa9,.slice pa10 na10 qa10,.slice pa11 na11 qa11⟩):=BoxT.new _ _ _
 have HB1:Hid (Below w.heap.size w (w1.alloc (.cells (tabCells ⟨.slice pa0 na0 qa0,.slice pa1 na1 qa1,.slice pa2 na2 qa2,.slice pa3 na3 qa3,.slice pa4 na4 qa4,.slice pa5 na5 qa5,.slice pa6 na6 qa6,.slice pa7 na7 qa7,.slice pa8 na8 qa8,.slice pa9 na9 qa9,.slice pa10 na10 qa10,.slice pa11 na11 qa11⟩) 26))):=hb1.trans (hba1.mono hb1.size)
 have HM:=Lib.hid hm
 have HCAP:Hid (CapOf ⟨.slice pa0 na0 qa0,.slice pa1 na1 qa1,.slice pa2 na2 qa2,.slice pa3 na3 qa3,.slice pa4 na4 qa4,.slice pa5 na5 qa5,.slice pa6 na6 qa6,.slice pa7 na7 qa7,.slice pa8 na8 qa8,.slice pa9 na9 qa9,.slice pa10 na10 qa10,.slice pa11 na11 qa11⟩):=hcap1
 clear htv hm hcap1 hb1 hba1
 simp only[tabCells]at HT1 HX1 HB1
 go_wp2_with fail
 generalize (w1.alloc (.cells #[.slice pa0 na0 qa0,.slice pa1 na1 qa1,.slice pa2 na2 qa2,.slice pa3 na3 qa3,.slice pa4 na4 qa4,.slice pa5 na5 qa5,.slice pa6 na6 qa6,.slice pa7 na7 qa7,.slice pa8 na8 qa8,.slice pa9 na9 qa9,.slice pa10 na10 qa10,.slice pa11 na11 qa11] 26))=W at HT1 HX1 HB1 ⊢
 generalize w1.heap.size=g at HX1 ⊢
 generalize (⟨.slice pa0 na0 qa0,.slice pa1 na1 qa1,.slice pa2 na2 qa2,.slice pa3 na3 qa3,.slice pa4 na4 qa4,.slice pa5 na5 qa5,.slice pa6 na6 qa6,.slice pa7 na7 qa7,.slice pa8 na8 qa8,.slice pa9 na9 qa9,.slice pa10 na10 qa10,.slice pa11 na11 qa11⟩:TV)=x at HT1 HX1 HCAP
 have HE:Hid (LEnv w g x T W):=⟨HT1.out,HX1.out,HB1.out⟩
 clear HT1 HX1 HB1
 refine(kraw_any p1 cap1 zs1 _ (HI1.out.below HE.out.bel) HL1.out).mono ?_
 rintro e wr ⟨S,rfl,hsz,hb⟩
 replace HE:=Lib.hid (HE.out.step hb)
 clear hb
 have hs:S.size≤140737488355328:=by omega
 obtain⟨A,KA,EA,hA⟩:∃A K E,Hid (toaR T S.data.toList=(A,K,E)):=⟨_,_,_,rfl⟩
 obtain⟨U,KU,EU,hU⟩:∃A K E,Hid (touR T S.data.toList=(A,K,E)):=⟨_,_,_,rfl⟩
 obtain⟨SA,hSA⟩:∃X,Hid (strOfNums A=X):=⟨_,rfl⟩
 obtain⟨SU,hSU⟩:∃X,Hid ((encodeS U).1=X):=⟨_,rfl⟩
 clear hsz
 obtain⟨⟨k0,k1,k2,k3,k4,k5⟩,⟨k6,k7,k8,k9,k10,k11⟩⟩:=HE.out.box.load
 go_wp2_with fail
 refine(itoa_at x T S SA A KA EA _ HE.out.tab (HR.out.below HE.out.bel) hs hA hSA).mono ?_
 rintro e w3 ⟨rfl,hb⟩
 replace HE:=Lib.hid (HE.out.step hb)
 clear hb k0 k1 k2 k3 k4 k5 k6 k7 k8 k9 k10 k11
 obtain⟨⟨k0,k1,k2,k3,k4,k5⟩,⟨k6,k7,k8,k9,k10,k11⟩⟩:=HE.out.box.load
 go_wp2_with fail
 refine(itou_at x T S SU U KU EU _ HE.out.tab (HR.out.below HE.out.bel) hs hU hSU).mono ?_
 rintro e w4 ⟨rfl,hb⟩
 replace HE:=Lib.hid (HE.out.step hb)
 clear hb k0 k1 k2 k3 k4 k5 k6 k7 k8 k9 k10 k11
 by_cases h0:EA=0
 ·subst h0
  have d0:((0:Int) !=0)=false:=rfl
  have hU0:touR T S.data.toList=(joinD (procR T S.data.toList).1,0,0):=touR_ok (by rw[hA.out])
  have hU1:=hU.out
  rw[hU0]at hU1
  injection hU1 with e1 e2
  injection e2 with e2 e3
  subst e2
  subst e3
  obtain⟨⟨f1,f2⟩,⟨f3,f4⟩,f5,f6⟩:=idn_fix HM.out hA.out hU.out hSA.out hSU.out
  have F1:=Lib.hid f1
  have F2:=Lib.hid f2
  have F3:=Lib.hid f3
  have F4:=Lib.hid f4
  have g5:SA.size≤140737488355328:=by omega
  have g6:SU.size≤140737488355328:=by omega
  have q1:(SA.toList==SA.toList)=true:=by simp
  have q2:(SU.toList==SU.toList)=true:=by simp
  clear f1 f2 f3 f4 f5 f6 hU0 e1 hA hU
  obtain⟨⟨k0,k1,k2,k3,k4,k5⟩,⟨k6,k7,k8,k9,k10,k11⟩⟩:=HE.out.box.load
  go_wp2_with fail
  refine(itoa_at x T SA SA A KA 0 _ HE.out.tab (HR.out.below HE.out.bel) g5 F1 hSA).mono ?_
  rintro e w5 ⟨rfl,hb⟩
  replace HE:=Lib.hid (HE.out.step hb)
  clear hb k0 k1 k2 k3 k4 k5 k6 k7 k8 k9 k10 k11
  obtain⟨⟨k0,k1,k2,k3,k4,k5⟩,⟨k6,k7,k8,k9,k10,k11⟩⟩:=HE.out.box.load
  go_wp2_with fail
  refine(itoa_at x T SU SA A KA 0 _ HE.out.tab (HR.out.below HE.out.bel) g6 F3 hSA).mono ?_
  rintro e w6 ⟨rfl,hb⟩
  replace HE:=Lib.hid (HE.out.step hb)
  clear hb k0 k1 k2 k3 k4 k5 k6 k7 k8 k9 k10 k11
  obtain⟨⟨k0,k1,k2,k3,k4,k5⟩,⟨k6,k7,k8,k9,k10,k11⟩⟩:=HE.out.box.load
  go_wp2_with fail
  refine(itou_at x T SA SU U 0 0 _ HE.out.tab (HR.out.below HE.out.bel) g5 F2 hSU).mono ?_
  rintro e w7 ⟨rfl,hb⟩
  replace HE:=Lib.hid (HE.out.step hb)
  clear hb k0 k1 k2 k3 k4 k5 k6 k7 k8 k9 k10 k11
  obtain⟨⟨k0,k1,k2,k3,k4,k5⟩,⟨k6,k7,k8,k9,k10,k11⟩⟩:=HE.out.box.load
  go_wp2_with fail
  refine(itou_at x T SU SU U 0 0 _ HE.out.tab (HR.out.below HE.out.bel) g6 F4 hSU).mono ?_
  rintro e w8 ⟨rfl,hb⟩
  replace HE:=Lib.hid (HE.out.step hb)
  clear hb k0 k1 k2 k3 k4 k5 k6 k7 k8 k9 k10 k11
  go_wp2_with fail
  refine(awake18_any _ (HR.out.below HE.out.bel)).mono ?_
  rintro e wz ⟨rfl,hb⟩
  have HBZ:=Lib.hid (HE.out.step hb).bel
  clear hb
  go_wp2
  go_ret
  exact⟨rfl,HBZ.out⟩
 ·have d0:(EA !=0)=true:=by simp[h0]
  have hU1:=hU.out
  rw[touR_err (by rw[hA.out];exact h0),hA.out]at hU1
  injection hU1 with e1 e2
  injection e2 with e2 e3
  subst e1
  subst e2
  subst e3
  have hA1:A=[]:=by have:=toaR_err (T:=T) (s:=S.data.toList) (by rw[hA.out];exact h0);rw[hA.out]at this;exact this
  subst hA1
  obtain rfl:SA=ByteArray.empty:=by rw[←hSA.out];rfl
  obtain rfl:SU=ByteArray.empty:=by rw[←hSU.out];rfl
  clear hA hU hSA hSU h0
  go_wp2_with fail
  refine(awake18_any _ (HR.out.below HE.out.bel)).mono ?_
  rintro e wz ⟨rfl,hb⟩
  have HBZ:=Lib.hid (HE.out.step hb).bel
  clear hb
  go_wp2
  go_ret
  exact⟨rfl,HBZ.out⟩
end Go.Proofs.YtblcoicaeeiojaaGreatDoor
