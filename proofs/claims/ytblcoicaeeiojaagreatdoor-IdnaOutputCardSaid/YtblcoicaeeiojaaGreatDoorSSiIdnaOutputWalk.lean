/-
  The walk of IdnaOutput (genIL.py).
-/
import Derived.Test.YtblcoicaeeiojaaGreatDoorSSiPmIdnA
import Derived.Test.YtblcoicaeeiojaaGreatDoorSSiPmIdnFix
import Derived.Test.YtblcoicaeeiojaaGreatDoorSSiTblJ
import Derived.Test.YtblcoicaeeiojaaGreatDoorSSiPmMapSpec
import Derived.Test.YtblcoicaeeiojaaGreatDoorSSiPmSplD
import Derived.Laws.RangeAny
import Derived.Deep.RegionHeld3
set_option linter.unusedSimpArgs false
set_option linter.unusedVariables false
namespace Go.Proofs.YtblcoicaeeiojaaGreatDoor
open Go.RowKit
theorem itoa_any (x : TV) (T : Tb) (s : ByteArray) (w : World) (hx : TabV w x T) (hr : Rsv w) (hs : s.size ≤ 140737488355328) :
  Calls Tryz.prog 19 #[x.agg,.string s] w fun e w'=>∃X K E S,Hid (toaR T s.data.toList=(X,K,E))∧Hid (strOfNums X=S)∧e = .returned (.tuple #[.string S,.int .i64 (K:Nat),.int .i64 E])∧Below w.heap.size w w':=by
 obtain⟨X,K,E,h⟩:∃X K E,Hid (toaR T s.data.toList=(X,K,E)):=⟨_,_,_,rfl⟩
 refine(itoa_at x T s (strOfNums X) X K E w hx hr hs h (Lib.hid rfl)).mono ?_
 rintro e w' ⟨rfl,hb⟩
 exact⟨X,K,E,_,h,Lib.hid rfl,rfl,hb⟩
set_option maxRecDepth 100000 in
set_option maxHeartbeats 8000000 in
theorem idnaOutput_walk (p0 : Option Addr) (cap0 : Nat) (zs0 : List Int) (p1 : Option Addr) (cap1 : Nat) (zs1 : List Int) (w : World) (hin0 : IntsIn w p0 zs0) (hl0 : zs0.length ≤ 17592186043904) (hin1 : IntsIn w p1 zs1) (hl1 : zs1.length ≤ 17592186043904) (hr : Rsv w) :
  Calls Tryz.prog 7 #[.slice p0 zs0.length cap0,.slice p1 zs1.length cap1] w (Gives (.bool true) w):=by
 have HI0:=Lib.hid hin0
 have HL0:=Lib.hid hl0
 have HI1:=Lib.hid hin1
 have HL1:=Lib.hid hl1
 have HR:=Lib.hid hr
 clear hin0 hl0 hin1 hl1 hr
 go_enter Tryz.func7,Tryz.ntmps7
 go_wp2_with fail
 refine(tables_any p0 cap0 zs0 _ HI0.out HL0.out).mono ?_
 rintro e w1 ⟨⟨a0,a1,a2,a3,a4,a5,a6,a7,a8,a9,a10,a11⟩,T,rfl,htv,hm,hcap1,hb1⟩
 obtain⟨pa0,na0,qa0,hsl0⟩:Slc a0:=htv.cat.slc
 subst hsl0
 obtain⟨pa1,na1,qa1,hsl1⟩:Slc a1:=htv.cls.slc
 subst hsl1
 obtain⟨pa2,na2,qa2,hsl2⟩:Slc a2:=htv.joi.slc
 subst hsl2
 obtain⟨pa3,na3,qa3,hsl3⟩:Slc a3:=htv.bid.slc
 subst hsl3
 obtain⟨pa4,na4,qa4,hsl4⟩:Slc a4:=htv.scr.slc
 subst hsl4
 obtain⟨pa5,na5,qa5,hsl5⟩:Slc a5:=htv.sta.slc
 subst hsl5
 obtain⟨pa6,na6,qa6,hsl6⟩:Slc a6:=htv.ign.slc
 subst hsl6
 obtain⟨pa7,na7,qa7,hsl7⟩:Slc a7:=htv.ext.slc
 subst hsl7
 obtain⟨pa8,na8,qa8,hsl8⟩:Slc a8:=htv.map.slc
 subst hsl8
 obtain⟨pa9,na9,qa9,hsl9⟩:Slc a9:=htv.dec.slc
 subst hsl9
 obtain⟨pa10,na10,qa10,hsl10⟩:Slc a10:=htv.exc.slc
 subst hsl10
 obtain⟨pa11,na11,qa11,hsl11⟩:Slc a11:=htv.pro.slc
 subst hsl11
 have hba1:Below w1.heap.size w1 (w1.alloc (.cells (tabCells ⟨.slice pa0 na0 qa0,.slice pa1 na1 qa1,.slice pa2 na2 qa2,.slice pa3 na3 qa3,.slice pa4 na4 qa4,.slice pa5 na5 qa5,.slice pa6 na6 qa6,.slice pa7 na7 qa7,.slice pa8 na8 qa8,.slice pa9 na9 qa9,.slice pa10 na10 qa10,.slice pa11 na11 qa11⟩) 26)):=(Below.refl _ _).alloc (Nat.le_refl _) _
 have HT1:Hid (TabV (w1.alloc (.cells (tabCells ⟨.slice pa0 na0 qa0,.slice pa1 na1 qa1,.slice pa2 na2 qa2,.slice pa3 na3 qa3,.slice pa4 na4 qa4,.slice pa5 na5 qa5,.slice pa6 na6 qa6,.slice pa7 na7 qa7,.slice pa8 na8 qa8,.slice pa9 na9 qa9,.slice pa10 na10 qa10,.slice pa11 na11 qa11⟩) 26)) ⟨.slice pa0 na0 qa0,.slice pa1 na1 qa1,.slice pa2 na2 qa2,.slice pa3 na3 qa3,.slice pa4 na4 qa4,.slice pa5 na5 qa5,.slice pa6 na6 qa6,.slice pa7 na7 qa7,.slice pa8 na8 qa8,.slice pa9 na9 qa9,.slice pa10 na10 qa10,.slice pa11 na11 qa11⟩ T):=htv.below hba1
 have HX1:Hid (BoxT (w1.alloc (.cells (tabCells ⟨.slice pa0 na0 qa0,.slice pa1 na1 qa1,.slice pa2 na2 qa2,.slice pa3 na3 qa3,.slice pa4 na4 qa4,.slice pa5 na5 qa5,.slice pa6 na6 qa6,.slice pa7 na7 qa7,.slice pa8 na8 qa8,.slice pa9 na9 qa9,.slice pa10 na10 qa10,.slice pa11 na11 qa11⟩) 26)) w1.heap.size ⟨.slice pa0 na0 qa0,.slice pa1 na1 qa1,.slice pa2 na2 qa2,.slice pa3 na3 qa3,.slice pa4 na4 qa4,.slice pa5 na5 qa5,.slice pa6 na6 qa6,.slice pa7 na7 qa7,.slice pa8 na8 qa8,.slice pa9 na9 qa9,.slice pa10 na10 qa10,.slice pa11 na11 qa11⟩):=BoxT.new _ _ _
 have HB1:Hid (Below w.heap.size w (w1.alloc (.cells (tabCells ⟨.slice pa0 na0 qa0,.slice pa1 na1 qa1,.slice pa2 na2 qa2,.slice pa3 na3 qa3,.slice pa4 na4 qa4,.slice pa5 na5 qa5,.slice pa6 na6 qa6,.slice pa7 na7 qa7,.slice pa8 na8 qa8,.slice pa9 na9 qa9,.slice pa10 na10 qa10,.slice pa11 na11 qa11⟩) 26))):=hb1.trans (hba1.mono hb1.size)
 have HM:=Lib.hid hm
 have HCAP:Hid (CapOf ⟨.slice pa0 na0 qa0,.slice pa1 na1 qa1,.slice pa2 na2 qa2,.slice pa3 na3 qa3,.slice pa4 na4 qa4,.slice pa5 na5 qa5,.slice pa6 na6 qa6,.slice pa7 na7 qa7,.slice pa8 na8 qa8,.slice pa9 na9 qa9,.slice pa10 na10 qa10,.slice pa11 na11 qa11⟩):=hcap1
 clear htv hm hcap1 hb1 hba1
 simp only[tabCells]at HT1 HX1 HB1
 go_upto_region 2 with(fail)
 generalize (w1.alloc (.cells #[.slice pa0 na0 qa0,.slice pa1 na1 qa1,.slice pa2 na2 qa2,.slice pa3 na3 qa3,.slice pa4 na4 qa4,.slice pa5 na5 qa5,.slice pa6 na6 qa6,.slice pa7 na7 qa7,.slice pa8 na8 qa8,.slice pa9 na9 qa9,.slice pa10 na10 qa10,.slice pa11 na11 qa11] 26))=W at HT1 HX1 HB1 ⊢
 generalize w1.heap.size=g at HX1 ⊢
 generalize (⟨.slice pa0 na0 qa0,.slice pa1 na1 qa1,.slice pa2 na2 qa2,.slice pa3 na3 qa3,.slice pa4 na4 qa4,.slice pa5 na5 qa5,.slice pa6 na6 qa6,.slice pa7 na7 qa7,.slice pa8 na8 qa8,.slice pa9 na9 qa9,.slice pa10 na10 qa10,.slice pa11 na11 qa11⟩:TV)=x at HT1 HX1 HCAP
 have HE:Hid (LEnv w g x T W):=⟨HT1.out,HX1.out,HB1.out⟩
 clear HT1 HX1 HB1
 have hraw:=fun W h1=>kraw_any p1 cap1 zs1 W h1 HL1.out
 obtain⟨m,hm⟩:∃m,zs1.length=m:=⟨_,rfl⟩
 rw[hm]at hraw
 rw[hm]
 have HRAW:=Lib.hid hraw
 have e0:=HE.out.step (drew_one W)
 have HE0:=Lib.hid e0
 clear e0 hraw hm
 obtain⟨⟨k0,k1,k2,k3,k4,k5⟩,⟨k6,k7,k8,k9,k10,k11⟩⟩:=HE.out.box.load
 go_region_held3 (boxF g x)
  (first
   | exact HE0.out.box.flat
   | exact(HE0.out.step hb3).box.flat
   | exact((HE0.out.step hb3).step hb4).box.flat)
  (first
   | (go_at_call 14;(with_reducible refine(HRAW.out _ (HI1.out.below HE0.out.bel)).mono ?_);rintro e w3 ⟨S,rfl,hsz,hb3⟩)
   | (go_at_call 19;(with_reducible refine(itoa_any x T S _ (HE0.out.step hb3).tab (HR.out.below (HE0.out.step hb3).bel) (Nat.le_trans hsz (by decide))).mono ?_);rintro e w4 ⟨A,K,E0,SA,hA,hSA,rfl,hb4⟩)
   | fail)
 all_goals
  replace HE:=Lib.hid (((HE0.out.step hb3).step hb4))
  clear hb3 hb4 HE0 HRAW k0 k1 k2 k3 k4 k5 k6 k7 k8 k9 k10 k11
  by_cases h0:E0=0
  ·subst h0
   have d0:((0:Int) !=0)=false:=rfl
   obtain⟨h1,h2,h3,h4,h5,h6⟩:=idn_out hA.out hSA.out
   subst h5
   have hsS:SA.size=A.length:=by rw[←nums_length,h1]
   have HNA:=Lib.hid h1
   have HLD:=Lib.hid h2
   have hs1:1≤SA.size:=by omega
   have hs2:SA.size≤253:=by omega
   have hs3:(1:Int)≤(SA.size:Int):=by omega
   have hs4:(SA.size:Int)≤253:=by omega
   obtain⟨Y,hY⟩:∃Y,Hid (strsD SA=Y):=⟨_,rfl⟩
   rw[hY.out]at h6
   have HCK:=Lib.hid h6
   clear hA h1 h2 h3 h4 h6 hsS hsz
   obtain⟨WB,hWB⟩:∃WB:World,WB=w4:=⟨_,rfl⟩
   rw[←hWB]at HE ⊢
   clear hWB
   go_wp2
   go_loopw [] (fun wr=>∃pos:Nat,pos≤SA.size∧wr=WB.iter SA pos) (fun wr=>SA.size-wr.iterPos WB.heap.size)
   case atStart=>exact⟨0,Nat.zero_le _,rfl⟩
   case round =>
    obtain⟨pos,hps,rfl⟩:=hrel
    by_cases hlt:pos<SA.size
    ·have hgd:=pnums_getD SA pos hlt
     rw[HNA.out]at hgd
     have hmem:A.getD pos 0∈A:=by
      have:pos<A.length:=by rw[←HNA.out,nums_length];exact hlt
      simp[List.getD,this]
     have hl:=HLD.out _ hmem
     obtain⟨y,hcc⟩:∃c:Int,(SA[pos].toNat:Int)=c:=⟨_,rfl⟩
     rw[hgd,hcc]at hl
     have hlo:SA[pos].toNat<128:=by unfold ldh at hl;omega
     have hnx:=fun ty=>run_next_ascii (P:=Tryz.prog) WB SA pos ty hlt hlo
     have hmu:(WB.iter SA pos).iterPos WB.heap.size=pos:=by simp
     have hmv:(WB.iter SA (pos+1)).iterPos WB.heap.size=pos+1:=by simp
     unfold ldh at hl
     have hl4:(97≤y∧y≤122)∨(48≤y∧y≤57)∨y=45∨y=46:=by omega
     clear hgd hmem hl hlo
     rcases hl4 with⟨l1,l2⟩|⟨l1,l2⟩|rfl|rfl
     ·go_wp2
      go_roundw
      case rel=>exact⟨pos+1,by omega,rfl⟩
      case measure=>omega
     ·have l3:¬97≤y:=by omega
      go_wp2
      go_roundw
      case rel=>exact⟨pos+1,by omega,rfl⟩
      case measure=>omega
     ·go_wp2
      go_roundw
      case rel=>exact⟨pos+1,by omega,rfl⟩
      case measure=>omega
     ·go_wp2
      go_roundw
      case rel=>exact⟨pos+1,by omega,rfl⟩
      case measure=>omega
    ·obtain rfl:pos=SA.size:=by omega
     have hnx:=fun ty=>run_next_end (P:=Tryz.prog) WB SA SA.size ty hlt
     replace HE:=Lib.hid (HE.out.step ((Below.refl WB.heap.size WB).alloc (Nat.le_refl _) (.stringIter SA SA.size)))
     have hwi:WB.iter SA SA.size=WB.alloc (.stringIter SA SA.size):=rfl
     rw[←hwi]at HE
     clear hwi
     go_wp2_with fail
     generalize WB.iter SA SA.size=WC at HE ⊢
     refine(rstrings_at SA Y _ (by omega) hY).mono ?_
     rintro e w5 ⟨v5,rfl,hi5,hb⟩
     replace HE:=Lib.hid (HE.out.step hb)
     obtain⟨p5,c5,rfl,hin5,hc5⟩:=hi5.inn
     have HI5:=Lib.hid hin5
     clear hi5 hin5 hc5 hb
     obtain⟨n5,hn5⟩:∃n,Y.length=n:=⟨_,rfl⟩
     have hy5:n5≤254:=by
      rw[←hn5,←hY.out]
      unfold strsD
      rw[List.length_map]
      have:=cutD_num (nums SA)
      rw[nums_length]at this
      omega
     rw[hn5]
     go_wp2_with fail
     refine(srcheck_at p5 n5 c5 0 0 Y _ HI5.out (Lib.hid hn5) (by omega) HCK).mono ?_
     rintro e w6 ⟨rfl,rfl⟩
     clear hn5
     go_wp2_with fail
     refine(awake18_any _ (HR.out.below HE.out.bel)).mono ?_
     rintro e wz ⟨rfl,hb⟩
     have HBZ:=Lib.hid (HE.out.step hb).bel
     clear hb
     go_wp2
     go_ret
     exact⟨rfl,HBZ.out⟩
  ·have d0:(E0 !=0)=true:=by simp[h0]
   have hA1:A=[]:=by have:=toaR_err (T:=T) (s:=S.data.toList) (by rw[hA.out];exact h0);rw[hA.out]at this;exact this
   subst hA1
   obtain rfl:SA=ByteArray.empty:=by rw[←hSA.out];rfl
   have k0:(0:Int)≤(K:Int):=by omega
   clear hA hSA h0
   go_wp2_with fail
   refine(awake18_any _ (HR.out.below HE.out.bel)).mono ?_
   rintro e wz ⟨rfl,hb⟩
   have HBZ:=Lib.hid (HE.out.step hb).bel
   clear hb
   go_wp2
   go_ret
   exact⟨rfl,HBZ.out⟩
end Go.Proofs.YtblcoicaeeiojaaGreatDoor
