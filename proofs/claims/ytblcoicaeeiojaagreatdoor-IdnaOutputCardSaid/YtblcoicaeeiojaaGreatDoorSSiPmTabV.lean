/-
  table: isComposable.
  table: rule 8: a set of pairs.
  table: rule 8.
-/
import Derived.Test.YtblcoicaeeiojaaGreatDoorSSiPmTabP
import Derived.StillTailTactics
import Derived.Maps.Own
import Derived.Maps.OwnOps
import Derived.Maps.Views
import Derived.WideKeyPair
import Derived.DeepKeys4
import Derived.ChangeOld
set_option linter.unusedSimpArgs false
set_option linter.unusedVariables false
namespace Go.Proofs.YtblcoicaeeiojaaGreatDoor
open Go.RowKit
structure CmpH (T:Tb):Prop where
 dec:ascI 0 1114111 (froms T.dec)=true
 cls:ascB 0 T.cls=true
 exc:ascI 0 1114111 T.exc=true
 len:T.dec.length≤256
 fin:∀c,siz T.dec c≤18
 pos:∀c,0≤clsT T c
 ne:∀m∈T.dec,m.2≠[]
theorem CmpH.dp {T:Tb} (h:CmpH T) (c:Int):Dp T.dec 256 c:=siz_dp h.len (h.fin c)
theorem CmpH.has {T:Tb} (h:CmpH T) {c:Int} (hc:hasM T.dec c=true):findM T.dec c≠[]:=by
 have:=findM_has hc
 exact h.ne _ this
set_option maxHeartbeats 1000000 in
theorem comp_short (x : TV) (T : Tb) (f : Int) (v : Value) (y : List Int) (w : World) (hf : findM T.dec f = y) (hv : InV w v y) (hy : y.length ≠ 2) :
  Calls Tryz.prog 214 #[x.agg,.agg #[.int .i64 f,v]] w (Gives (.bool (compT T f)) w):=by
 have HC:Hid (compT T f=false):=compT_not (by rw[hf];exact hy)
 obtain⟨q,c,rfl,_,hl⟩:=hv
 obtain⟨m,hm⟩:∃m,y.length=m:=⟨_,rfl⟩
 rw[hm]at hy hl ⊢
 have hd:((m:Int) !=2)=true:=by simp;omega
 clear hf hm hy
 simp only[TV.agg]
 go_enter Tryz.func214,Tryz.ntmps214
 go_wp2
 go_ret
 exact⟨by rw[HC.out];rfl,((Below.refl _ _).alloc (Nat.le_refl _) _).alloc (by simp) _⟩
theorem Env.cells {w0 w : World} {x : TV} {T : Tb} (h : Env w0 x T w) {A B : Prop} (ha : A) (hb : B) :
  w.cell? ⟨w0.heap.size,0,none⟩=some x.a0∧w.cell? ⟨w0.heap.size,1,none⟩=some x.a1∧w.cell? ⟨w0.heap.size,2,none⟩=some x.a2∧w.cell? ⟨w0.heap.size,3,none⟩=some x.a3∧w.cell? ⟨w0.heap.size,4,none⟩=some x.a4∧w.cell? ⟨w0.heap.size,5,none⟩=some x.a5∧
  w.cell? ⟨w0.heap.size,6,none⟩=some x.a6∧w.cell? ⟨w0.heap.size,7,none⟩=some x.a7∧w.cell? ⟨w0.heap.size,8,none⟩=some x.a8∧w.cell? ⟨w0.heap.size,9,none⟩=some x.a9∧w.cell? ⟨w0.heap.size,10,none⟩=some x.a10∧w.cell? ⟨w0.heap.size,11,none⟩=some x.a11∧A∧B :=
 ⟨h.at0,h.at1,h.at2,h.at3,h.at4,h.at5,h.at6,h.at7,h.at8,h.at9,h.at10,h.at11,ha,hb⟩
set_option maxRecDepth 100000 in
set_option maxHeartbeats 16000000 in
theorem composable_any (T : Tb) (H : CmpH T) (k : Nat) : ∀ (x : TV) (f : Int) (v : Value) (y : List Int) (w : World), Dp T.dec k f → findM T.dec f = y → TabV w x T → InV w v y →
  Calls Tryz.prog 214 #[x.agg,.agg #[.int .i64 f,v]] w (Gives (.bool (compT T f)) w):=by
 have HH:=Lib.hid H
 clear H
 induction k with
 | zero =>
  intro x f v y w hd hf hx hv
  exact comp_short x T f v y w hf hv (by rw[←hf,show findM T.dec f=[]from hd];simp)
 | succ k ih0 =>
  have IH:=Lib.hid ih0
  clear ih0
  intro x f v y w hd hf hx hv
  by_cases hy:y.length=2
  ·obtain⟨a0,a1,a2,a3,a4,a5,a6,a7,a8,a9,a10,a11⟩:=x
   obtain⟨pd,cd,hpd,hdin,hdl⟩:=hx.dec
   obtain⟨n,hn⟩:∃n,T.dec.length=n:=⟨_,rfl⟩
   rw[hn]at hpd hdl
   simp only at hpd
   subst hpd
   have HN:=Lib.hid hn
   have HDI:=Lib.hid hdin
   clear hn hdin
   obtain⟨a,b,rfl⟩:∃a b,y=[a,b]:=by
    match y,hy with
    | [a,b],_=>exact⟨a,b,rfl⟩
   have hcomp:=compT_two (HH.out.dp f) hf
   have hda:Dp T.dec k a:=hd a (by rw[hf];simp)
   obtain⟨C,hC⟩:∃C,compT T f=C:=⟨_,rfl⟩
   obtain⟨BX,hBX⟩:∃B,Hid (excT T f=B):=⟨_,rfl⟩
   obtain⟨zf,hzf⟩:∃z,Hid (clsT T f=z):=⟨_,rfl⟩
   obtain⟨za,hza⟩:∃z,Hid (clsT T a=z):=⟨_,rfl⟩
   obtain⟨zb,hzb⟩:∃z,Hid (clsT T b=z):=⟨_,rfl⟩
   obtain⟨Bb,hBb⟩:∃B,Hid (hasM T.dec b=B):=⟨_,rfl⟩
   obtain⟨Ba,hBa⟩:∃B,Hid (hasM T.dec a=B):=⟨_,rfl⟩
   obtain⟨Ca,hCa⟩:∃B,Hid (compT T a=B):=⟨_,rfl⟩
   obtain⟨zl,hzl⟩:∃z,Hid (clsT T (lastF T.dec a)=z):=⟨_,rfl⟩
   rw[hBX.out,hzf.out,hza.out,hzb.out,hBb.out,hBa.out,hCa.out,hzl.out,hC]at hcomp
   rw[hC]
   have hbp:0≤zb:=by rw[←hzb.out];exact HH.out.pos b
   obtain⟨q,c,rfl,hiy,_⟩:=hv
   have hi0:=hiy 0 (by simp)
   have hi1:=hiy 1 (by simp)
   obtain⟨b3,off3,rfl,q0⟩:=hi0
   obtain⟨b3',off3',e3,q1⟩:=hi1
   injection e3 with e3
   injection e3 with e4 e5
   subst e4;subst e5
   simp only[List.getD_cons_zero,List.getD_cons_succ]at q0 q1
   have hbb:Below w.heap.size w ((w.alloc (.cells (tabCells ⟨a0,a1,a2,a3,a4,a5,a6,a7,a8,.slice pd n cd,a10,a11⟩) 26)).alloc (.cells #[.int .i64 f,.slice (some ⟨b3,off3,none⟩) 2 c] 73)):=((Below.refl _ _).alloc (Nat.le_refl _) _).alloc (by simp) _
   have hlt3:=World.block_lt_of_cell? w _ q0
   have r0:=(hbb.cell (p:=⟨b3,off3+0,none⟩) hlt3).trans q0
   have r1:=(hbb.cell (p:=⟨b3,off3+1,none⟩) hlt3).trans q1
   simp only[Nat.add_zero]at r0
   have HE:=Lib.hid ((Env.new hx).step ((Below.refl _ _).alloc (Nat.le_refl _) (.cells #[.int .i64 f,.slice (some ⟨b3,off3,none⟩) 2 c] 73)))
   have HBM:=Lib.hid (BoxM.new (w.alloc (.cells (tabCells ⟨a0,a1,a2,a3,a4,a5,a6,a7,a8,.slice pd n cd,a10,a11⟩) 26)) f (.slice (some ⟨b3,off3,none⟩) 2 c) 73)
   have hsz1:(w.alloc (.cells (tabCells ⟨a0,a1,a2,a3,a4,a5,a6,a7,a8,.slice pd n cd,a10,a11⟩) 26)).heap.size=w.heap.size+1:=by simp
   rw[hsz1]at HBM
   have HCOMP:=Lib.hid hcomp
   have HR0:=Lib.hid r0
   have HR1:=Lib.hid r1
   have HDA:=Lib.hid hda
   have HLT:Hid (b3<w.heap.size):=hlt3
   clear hcomp hC hda q0 q1 r0 r1 hbb hsz1 hd hf hy hiy hx hlt3
   simp only[TV.agg]
   go_enter Tryz.func214,Tryz.ntmps214
   go_wp2_with fail
   refine(excluded_at _ T f BX _ HE.out.tab HH.out.exc hBX).mono ?_
   rintro e w1 ⟨rfl,hb1⟩
   have HE1:=Lib.hid (HE.out.step hb1)
   have HBM1:=Lib.hid (HBM.out.below hb1)
   have HR01:Hid (w1.cell? ⟨b3,off3,none⟩=some (.int .i64 a)):=(hb1.cell (p:=⟨b3,off3,none⟩) (World.block_lt_of_cell? _ _ HR0.out)).trans HR0.out
   have HR11:Hid (w1.cell? ⟨b3,off3+1,none⟩=some (.int .i64 b)):=(hb1.cell (p:=⟨b3,off3+1,none⟩) (World.block_lt_of_cell? _ _ HR1.out)).trans HR1.out
   clear hb1
   cases BX with
   | true =>
    go_wp2
    go_ret
    exact⟨by rw[HCOMP.out];rfl,HE1.out.bel⟩
   | false =>
    obtain⟨m0,m1⟩:=HBM1.out
    have r0:=HR01.out
    have r1:=HR11.out
    go_wp2
    go_quiet (fail)
    generalize hwq:World.drewN w1 _=wq
    have hq:Below w1.heap.size w1 wq:=by rw[←hwq];exact drew_ref _ _
    have HE2:=Lib.hid (HE1.out.step hq)
    have HBM2:=Lib.hid (HBM1.out.below hq)
    have HR12:Hid (wq.cell? ⟨b3,off3+1,none⟩=some (.int .i64 b)):=(hq.cell (p:=⟨b3,off3+1,none⟩) (World.block_lt_of_cell? _ _ HR11.out)).trans HR11.out
    clear hwq hq m0 m1 r0 r1
    have hbx:=HE2.out.box
    simp only[BoxT]at hbx
    obtain⟨⟨k0,k1,k2,k3,k4,k5⟩,⟨k6,k7,k8,k9,k10,k11⟩⟩:=hbx
    obtain⟨m0,m1⟩:=HBM2.out
    go_wp2_with fail
    refine(class_at _ T f zf _ HE2.out.tab HH.out.cls hzf).mono ?_
    rintro e w3 ⟨rfl,hb3⟩
    have HE3:=Lib.hid (HE2.out.step hb3)
    clear hb3 k0 k1 k2 k3 k4 k5 k6 k7 k8 k9 k10 k11 m0 m1
    by_cases hz1:zf=0
    ·have d1:(zf !=0)=false:=by simp[hz1]
     have hbx:=HE3.out.box
     simp only[BoxT]at hbx
     obtain⟨⟨k0,k1,k2,k3,k4,k5⟩,⟨k6,k7,k8,k9,k10,k11⟩⟩:=hbx
     have HZ1:=Lib.hid hz1
     clear hz1
     go_wp2_with fail
     refine(class_at _ T a za _ HE3.out.tab HH.out.cls hza).mono ?_
     rintro e w4 ⟨rfl,hb4⟩
     have HE4:=Lib.hid (HE3.out.step hb4)
     clear hb4 k0 k1 k2 k3 k4 k5 k6 k7 k8 k9 k10 k11
     by_cases hz2:za=0
     ·have d2:(za !=0)=false:=by simp[hz2]
      have hbx:=HE4.out.box
      simp only[BoxT]at hbx
      obtain⟨⟨k0,k1,k2,k3,k4,k5⟩,⟨k6,k7,k8,k9,k10,k11⟩⟩:=hbx
      have HZ2:=Lib.hid hz2
      clear hz2
      go_wp2_with fail
      refine(hasDecomp_at _ T b Bb _ HE4.out.tab HH.out.dec hBb).mono ?_
      rintro e w5 ⟨rfl,hb5⟩
      have HE5:=Lib.hid (HE4.out.step hb5)
      clear hb5 k0 k1 k2 k3 k4 k5 k6 k7 k8 k9 k10 k11
      cases Bb with
      | true =>
       go_wp2
       go_ret
       exact⟨by rw[HCOMP.out];simp,HE5.out.bel⟩
      | false =>
       have k9:=HE5.out.at9
       simp only at k9
       go_wp2_with fail
       refine(findMp_any _ T.dec a _ HE5.out.tab.dec HH.out.dec).mono ?_
       rintro e w6 ⟨i,rfl,hi,hfnd,hb6⟩
       rw[hBa.out]at hfnd ⊢
       have HE6:=Lib.hid (HE5.out.step hb6)
       clear hb6 k9
       cases Ba with
       | false =>
        have HCT:Hid (C=true):=by
         have hl:zl=za:=by rw[←hzl.out,lastF_nil (findM_nil hBa.out),hza.out]
         unfold Hid
         rw[HCOMP.out,HZ1.out,HZ2.out,hl,HZ2.out]
         simp;omega
        go_wp2
        go_ret
        exact⟨by rw[HCT.out];rfl,HE6.out.bel⟩
       | true =>
        obtain⟨hil,hkey,hto⟩:=hfnd rfl
        have hin:i<n:=by rw[←HN.out];exact hil
        obtain⟨bd,offd,vd,rfl,d1',d2',qd,cqd,rfl,hyd,hyl⟩:=(HDI.out.below HE6.out.bel) i hil
        rw[hkey]at d1'
        rw[←hto]at d2' hyd hyl
        obtain⟨yd,hyd2⟩:∃yd,findM T.dec a=yd:=⟨_,rfl⟩
        rw[hyd2]at d2' hyd hyl
        obtain⟨md,hmd⟩:∃m,yd.length=m:=⟨_,rfl⟩
        rw[hmd]at d2' hyl
        have HD2:=Lib.hid d2'
        have HYD:=Lib.hid hyd
        have HFD:=Lib.hid hyd2
        have HMD:=Lib.hid hmd
        have HHIL:=Lib.hid hil
        clear hfnd hi hil hkey hto hyd hyd2 hmd
        have hbx:=HE6.out.box
        simp only[BoxT]at hbx
        obtain⟨⟨k0,k1,k2,k3,k4,k5⟩,⟨k6,k7,k8,k9,k10,k11⟩⟩:=hbx
        go_upto_region 9 with(fail)
        go_still_tail 6,(by kernel_rfl)
        change wpList _ _ _ _ _ w6.drew
        have hq:Below w6.heap.size w6 w6.drew:=drew_one _
        have HE7:=Lib.hid (HE6.out.step hq)
        have HYD7:=Lib.hid (HYD.out.below hq)
        generalize w6.drew=w7 at HE7 HYD7 hq ⊢
        have HQ:=Lib.hid hq
        clear hq
        go_wp2_with fail
        refine(IH.out _ a (.slice qd md cqd) yd _ HDA.out HFD.out HE7.out.tab ⟨qd,cqd,by rw[HMD.out],HYD7.out,by rw[HMD.out];exact hyl⟩).mono ?_
        rw[hCa.out]
        rintro e w8 ⟨rfl,hb8⟩
        have HE8:=Lib.hid (HE7.out.step hb8)
        have HYD8:=Lib.hid (HYD7.out.below hb8)
        have HD28:=Lib.hid (((HQ.out.trans (hb8.mono HQ.out.size)).cell (World.block_lt_of_cell? _ _ HD2.out)).trans HD2.out)
        clear hb8 k0 k1 k2 k3 k4 k5 k6 k7 k8 k9 k10 k11 d1' d2'
        cases Ca with
        | false =>
         have HCT:Hid (C=false):=by unfold Hid;rw[HCOMP.out];simp
         go_wp2
         go_ret
         exact⟨by rw[HCT.out];rfl,HE8.out.bel⟩
        | true =>
         have hmd2:yd.length=2:=by
          apply Classical.byContradiction
          intro h
          have:=compT_not (T:=T) (c:=a) (by rw[HFD.out];exact h)
          rw[hCa.out]at this;cases this
         obtain⟨e0,e1,rfl⟩:∃e0 e1,yd=[e0,e1]:=by
          match yd,hmd2 with
          | [e0,e1],_=>exact⟨e0,e1,rfl⟩
         have hc2:=compT_two (HH.out.dp a) HFD.out
         rw[hCa.out]at hc2
         have hne1:hasM T.dec e1=false:=by
          cases hh:hasM T.dec e1 with
          | false=>rfl
          | true=>rw[hh]at hc2;simp at hc2
         have hlast:=lastF_two (HH.out.dp a) HFD.out (findM_nil hne1)
         have hzl1:Hid (clsT T e1=zl):=by unfold Hid;rw[←hzl.out,hlast]
         obtain rfl:md=2:=HMD.out.symm
         obtain⟨be,offe,rfl,s1⟩:=HYD8.out 1 (by simp)
         simp only[List.getD_cons_zero,List.getD_cons_succ]at s1
         have t2:=HD28.out
         have hcl:=class_at _ T b zb w8.drew (HE8.out.step (drew_one _)).tab HH.out.cls hzb
         have HCL:=Lib.hid hcl
         have HE9:=Lib.hid (HE8.out.step (drew_one w8))
         have T2:=Lib.hid t2
         have S1:=Lib.hid s1
         have hbx:=HE8.out.box
         simp only[BoxT]at hbx
         obtain⟨⟨k0,k1,k2,k3,k4,k5⟩,⟨k6,k7,k8,k9,k10,k11⟩⟩:=hbx
         clear hcl hmd2 hc2 hne1 hlast
         go_wp2_with fail
         go_region_held3 (fun w'=>w'.cell? ⟨w.heap.size,0,none⟩=some a0∧w'.cell? ⟨w.heap.size,1,none⟩=some a1∧w'.cell? ⟨w.heap.size,2,none⟩=some a2∧w'.cell? ⟨w.heap.size,3,none⟩=some a3∧w'.cell? ⟨w.heap.size,4,none⟩=some a4∧w'.cell? ⟨w.heap.size,5,none⟩=some a5∧w'.cell? ⟨w.heap.size,6,none⟩=some a6∧w'.cell? ⟨w.heap.size,7,none⟩=some a7∧w'.cell? ⟨w.heap.size,8,none⟩=some a8∧w'.cell? ⟨w.heap.size,9,none⟩=some (.slice (some ⟨bd,offd,none⟩) n cd)∧w'.cell? ⟨w.heap.size,10,none⟩=some a10∧w'.cell? ⟨w.heap.size,11,none⟩=some a11∧w'.cell? ⟨bd,offd+i*2+1,none⟩=some (.slice (some ⟨be,offe,none⟩) 2 cqd)∧w'.cell? ⟨be,offe+1,none⟩=some (.int .i64 e1))
          (first
           | go_keep
           | exact(HE9.out.step hb10).cells ((hb10.cell (p:=⟨bd,offd+i*2+1,none⟩) (World.block_lt_of_cell? w8 _ T2.out)).trans T2.out) ((hb10.cell (p:=⟨be,offe+1,none⟩) (World.block_lt_of_cell? w8 _ S1.out)).trans S1.out))
          (first
           | (go_at_call 155;(with_reducible refine HCL.out.mono ?_);rintro e w10 ⟨rfl,hb10⟩))
         all_goals
          have HE10:=Lib.hid (HE9.out.step hb10)
          clear hb10
          by_cases hzb0:zb=0
          ·have d3:(zb==0)=true:=by simp[hzb0]
           have HCT:Hid (C=true):=by unfold Hid;rw[HCOMP.out,HZ1.out,HZ2.out,hzb0];rfl
           clear hzb0
           go_wp2
           go_ret
           exact⟨by rw[HCT.out];rfl,HE10.out.bel⟩
          ·have d3:(zb==0)=false:=by simp[hzb0]
           have HCT:Hid (C=decide (zl≤zb)):=by unfold Hid;rw[HCOMP.out,HZ1.out,HZ2.out,decide_eq_false hzb0];simp
           have hbx:=HE10.out.box
           simp only[BoxT]at hbx
           obtain⟨⟨k0,k1,k2,k3,k4,k5⟩,⟨k6,k7,k8,k9,k10,k11⟩⟩:=hbx
           clear hzb0
           go_wp2_with fail
           refine(class_at _ T e1 zl _ HE10.out.tab HH.out.cls hzl1).mono ?_
           rintro e w11 ⟨rfl,hb11⟩
           have HE11:=Lib.hid (HE10.out.step hb11)
           clear hb11 k0 k1 k2 k3 k4 k5 k6 k7 k8 k9 k10 k11
           go_wp2
           all_goals
            go_ret
            exact⟨iff_ret (by first|(rw[HCT.out];done)|(rw[HCT.out];simp;done)|(rw[HCT.out];simp;omega)),HE11.out.bel⟩
     ·have d2:(za !=0)=true:=by simp[hz2]
      have HCT:Hid (C=false):=by unfold Hid;rw[HCOMP.out,decide_eq_false hz2];simp
      clear hz2
      go_wp2
      go_ret
      exact⟨by rw[HCT.out];rfl,HE4.out.bel⟩
    ·have d1:(zf !=0)=true:=by simp[hz1]
     have HCT:Hid (C=false):=by unfold Hid;rw[HCOMP.out,decide_eq_false hz1];simp
     clear hz1
     go_wp2
     go_ret
     exact⟨by rw[HCT.out];rfl,HE3.out.bel⟩
  ·exact comp_short x T f v y w hf hv hy
end Go.Proofs.YtblcoicaeeiojaaGreatDoor
namespace Go.Proofs.YtblcoicaeeiojaaGreatDoor
open Go.RowKit Go.Maps
open Go.WideMaps (ArrKey keyOf_pair)
theorem pairKey:ArrKey Tryz.prog 161 3 2:=⟨Tryz.underlying161,by kernel_rfl,by kernel_rfl,by kernel_rfl⟩
theorem pairSize:∃m,Tryz.prog.types.size=m+1:=⟨Tryz.prog.types.size-1,by
 have:0<Tryz.prog.types.size:=of_decide_eq_true (by kernel_rfl)
 omega⟩
theorem pairLaid:laidOutB Tryz.prog=true:=by kernel_rfl
theorem pairWide:(match Tryz.prog.underlying 161 with|some (.array _ _)|some (.struct _)=>true|_=>false)=true:=by kernel_rfl
theorem pairRow:(161:TypeId)<Tryz.prog.types.size:=of_decide_eq_true (by kernel_rfl)
theorem pairDeep:Tryz.prog.keyTypeAt 2 161=true:=by kernel_rfl
set_option maxRecDepth 100000 in
theorem pairLaw:Keyed Tryz.prog 161:=Keyed.of_law (deep_law_laid pairLaid (m:=2) (by omega) pairRow pairDeep pairWide)
def pairLit (a b:Int):Lit := .string (keyBytes [.int .i64 a,.int .i64 b])
def wfI (a:Int):Prop:=0≤a∧a≤1114111
theorem wfI_wf {a:Int} (h:wfI a):(Lit.int .i64 a).wf=true:=WalkArith.wf_i64 (by unfold wfI at h;omega)
theorem pair_key {a b:Int} (ha:wfI a) (hb:wfI b):keyOf Tryz.prog 161 (.agg #[.int .i64 a,.int .i64 b])=some (pairLit a b):=keyOf_pair pairKey Tryz.underlying3 pairSize (wfI_wf ha) (wfI_wf hb)
theorem pairLit_inj {a b c d:Int} (ha:wfI a) (hb:wfI b) (hc:wfI c) (hd:wfI d) (h:pairLit a b=pairLit c d):a=c∧b=d:=by
 have h1:=pair_key ha hb
 have h2:=pair_key hc hd
 rw[h]at h1
 have:=pairLaw.inj h1 h2
 injection this with this
 injection this with this
 injection this with e1 e2
 injection e1 with _ e1
 injection e2 with e2 _
 injection e2 with _ e2
 exact⟨e1,e2⟩
def litOf (y:List Int):Lit:=pairLit (y.getD 0 0) (y.getD 1 0)
def setP (l:List (List Int)):DataW Unit:=setOf (.lit (.bool true)) (l.map litOf)
theorem litOf_key (y:List Int):WideAt.IsKeyLit (litOf y):=trivial
theorem atKey_fold (k : Lit) : ∀ (acc : List Lit) (m : DataW Unit), IsMap m → (∀ x ∈ acc, WideAt.IsKeyLit x) →
  (k∈acc→(acc.foldl (fun m x=>m.put x (.lit (.bool true))) m).atKey k (.lit (.bool false)) = .lit (.bool true))∧
  (k∉acc→(acc.foldl (fun m x=>m.put x (.lit (.bool true))) m).atKey k (.lit (.bool false))=m.atKey k (.lit (.bool false)))
 | [],m,_,_=>⟨fun h=>(List.not_mem_nil h).elim,fun _=>rfl⟩
 | x::r,m,hm,h=>by
  rw[List.foldl_cons]
  have ih:=atKey_fold k r _ (hm.put x (.lit (.bool true))) (fun y hy=>h y (by simp[hy]))
  by_cases e:k=x
  ·subst e
   have hp:=atKey_put_same hm (h k (by simp)) (.lit (.bool true)) (.lit (.bool false))
   refine⟨fun _=>?_,fun hn=>absurd (by simp) hn⟩
   by_cases hr:k∈r
   ·exact ih.1 hr
   ·rw[ih.2 hr,hp]
  ·have hp:(m.put x (.lit (.bool true))).atKey k (.lit (.bool false))=m.atKey k (.lit (.bool false)):=atKey_put_other e _ _
   refine⟨fun hk=>ih.1 ?_,fun hn=>?_⟩
   ·rcases List.mem_cons.1 hk with hk|hk
    ·exact absurd hk e
    ·exact hk
   ·rw[ih.2 (fun hk=>hn (List.mem_cons_of_mem _ hk)),hp]
theorem setP_at (l:List (List Int)) (k:Lit):(k∈l.map litOf→(setP l).atKey k (.lit (.bool false)) = .lit (.bool true))∧(k∉l.map litOf→(setP l).atKey k (.lit (.bool false)) = .lit (.bool false)):=by
 have:=atKey_fold k (l.map litOf) (.map []) isMap_empty (fun x hx=>by
  obtain⟨y,_,rfl⟩:=List.mem_map.1 hx;exact litOf_key y)
 exact⟨this.1,this.2⟩
theorem setP_snoc (l:List (List Int)) (y:List Int):setP (l++[y])=(setP l).put (litOf y) (.lit (.bool true)):=by
 rw[setP,List.map_append,List.map_cons,List.map_nil,setOf_snoc];rfl
theorem lit_mem {l:List (List Int)} {a b:Int} (hl:∀y∈l,∃c d,y=[c,d]∧wfI c∧wfI d) (ha:wfI a) (hb:wfI b):pairLit a b∈l.map litOf↔[a,b]∈l:=by
 constructor
 ·intro h
  obtain⟨y,hy,e⟩:=List.mem_map.1 h
  obtain⟨c,d,rfl,hc,hd⟩:=hl y hy
  obtain⟨e1,e2⟩:=pairLit_inj hc hd ha hb e
  rw[←e1,←e2];exact hy
 ·intro h
  exact List.mem_map.2 ⟨[a,b],h,rfl⟩
theorem zeroB (w:World):(zeroValue 4).run Tryz.prog w = .ok (.bool false) w:=by kernel_rfl
theorem plainElem_bool_inv {P:Program} {e:TypeId} (he:P.underlying e=some .bool) {v:Value} {z:DataW Unit × List MemPlace} (h:plainElem P e v=some z):∃a,v = .bool a∧z=(.lit (.bool a),[]):=by
 unfold plainElem at h
 rw[he]at h
 cases v<;>simp at h
 exact⟨_,rfl,h.symm⟩
theorem lookup_bool {P : Program} {k : TypeId} {w : World} {b n : Nat} {D : DataW Unit} {t e : TypeId} (h : w.ownsMap P k (plainElem P e) b n D) (K : Keyed P k) (ht : P.underlying t = some (.map k e)) (he : P.underlying e = some .bool) (hz : (zeroValue e).run P w = .ok (.bool false) w)
  {key:Value} {kl:Lit} (hkey:keyOf P k key=some kl):∃c,(Instr.lookup t (.map (some b)) key false).run P w = .ok (.bool c) w∧D.atKey kl (.lit (.bool false)) = .lit (.bool c):=by
 obtain⟨v,ps,hrun,hv⟩:=h.lookup K ht hz (plainElem_bool he false) hkey
 obtain⟨c,rfl,hc⟩:=plainElem_bool_inv he hv
 simp only[Prod.mk.injEq]at hc
 exact⟨c,hrun,hc.1⟩
set_option maxRecDepth 100000 in
theorem lookup_pair {w : World} {B n : Nat} {l : List (List Int)} {a b : Int} (h : w.ownsMap Tryz.prog 161 (plainElem Tryz.prog 4) B n (setP l)) (hl : ∀ y ∈ l, ∃ c d, y = [c, d] ∧ wfI c ∧ wfI d) (ha : wfI a) (hb : wfI b) :
  (Instr.lookup 178 (.map (some B)) (.agg #[.int .i64 a,.int .i64 b]) false).run Tryz.prog w = .ok (.bool (decide ([a,b]∈l))) w:=by
 obtain⟨c,hrun,hc⟩:=lookup_bool h pairLaw Tryz.underlying178 Tryz.underlying4 (zeroB w) (pair_key ha hb)
 have hs:=setP_at l (pairLit a b)
 have hm:=lit_mem hl ha hb
 rw[hrun]
 by_cases h2:[a,b]∈l
 ·rw[hs.1 (hm.2 h2)]at hc
  injection hc with hc
  injection hc with hc
  rw[←hc,decide_eq_true h2]
 ·rw[hs.2 (fun h3=>h2 (hm.1 h3))]at hc
  injection hc with hc
  injection hc with hc
  rw[←hc,decide_eq_false h2]
theorem cmpTos_snoc (T:Tb) (l:List Mp) (m:Mp):cmpTos T (l++[m])=cmpTos T l++if compT T m.1=true then [m.2]else []:=by
 simp only[cmpTos,List.filter_append,List.map_append,List.filter_cons,List.filter_nil]
 split<;>simp
theorem nodup_of_take {T:Tb} {l:List Mp} (k:Nat) (h:¬(cmpTos T (l.take k)).Nodup):¬(cmpTos T l).Nodup:=by
 intro hn
 apply h
 have e:=List.take_append_drop k l
 rw[←e]at hn
 simp only[cmpTos,List.filter_append,List.map_append]at hn
 exact(List.nodup_append.1 hn).1
theorem nodup_snoc {l:List (List Int)} {y:List Int} (h:l.Nodup) (hy:y∉l):(l++[y]).Nodup:=by
 rw[List.nodup_append]
 exact⟨h,by simp,fun a ha b hb=>by rw[List.mem_singleton]at hb;subst hb;exact fun e=>hy (e▸ha)⟩
theorem not_nodup_snoc {l:List (List Int)} {y:List Int} (hy:y∈l):¬(l++[y]).Nodup:=by
 rw[List.nodup_append]
 intro h
 exact h.2.2 y hy y (by simp) rfl
end Go.Proofs.YtblcoicaeeiojaaGreatDoor
namespace Go.Proofs.YtblcoicaeeiojaaGreatDoor
open Go.RowKit Go.Maps
theorem comp_mem {T:Tb} (hf:∀m∈T.dec,findM T.dec m.1=m.2) (hs:∀m∈T.dec,m.2.all scaB=true) {l:List Mp} (hl:∀m∈l,m∈T.dec):∀y∈cmpTos T l,∃c d,y=[c,d]∧wfI c∧wfI d:=by
 intro y hy
 simp only[cmpTos,List.mem_map,List.mem_filter]at hy
 obtain⟨m,⟨hm,hc⟩,rfl⟩:=hy
 have hlen:m.2.length=2:=by
  apply Classical.byContradiction
  intro h
  have:=compT_not (T:=T) (c:=m.1) (by rw[hf m (hl m hm)];exact h)
  rw[hc]at this;cases this
 have hsc:=hs m (hl m hm)
 obtain⟨f,y⟩:=m
 match y,hlen,hsc with
 | [c,d],_,hsc =>
  simp only[List.all_cons,List.all_nil,Bool.and_eq_true,scaB_iff]at hsc
  exact⟨c,d,rfl,⟨hsc.1.1,hsc.1.2.1⟩,⟨hsc.2.1.1,hsc.2.1.2.1⟩⟩
theorem ownsMap_below {w w':World} {B n:Nat} {D:DataW Unit} (h:w.ownsMap Tryz.prog 161 (plainElem Tryz.prog 4) B n D) (hb:Below w.heap.size w w'):w'.ownsMap Tryz.prog 161 (plainElem Tryz.prog 4) B n D:=h.kept (below_grownBy hb none) (by simp)
set_option maxRecDepth 100000 in
set_option maxHeartbeats 8000000 in
theorem unique_any (x : TV) (T : Tb) (w : World) (hx : TabV w x T) (H : CmpH T) (hs : ∀ m ∈ T.dec, m.2.all scaB = true) :
  Calls Tryz.prog 147 #[x.agg] w (Gives (.bool (r8 T)) w):=by
 obtain⟨a0,a1,a2,a3,a4,a5,a6,a7,a8,a9,a10,a11⟩:=x
 obtain⟨pm,cm,hm,hmin,hml⟩:=hx.dec
 obtain⟨n,hn⟩:∃n,T.dec.length=n:=⟨_,rfl⟩
 rw[hn]at hm hml
 simp only at hm
 subst hm
 have hfm:∀m∈T.dec,findM T.dec m.1=m.2:=fun m hm=>by
  obtain⟨k,hk,rfl⟩:=List.getElem_of_mem hm
  have:=findM_at H.dec k hk
  rw[List.getD_eq_getElem?_getD,List.getElem?_eq_getElem hk]at this
  exact this
 have HWF:=Lib.hid (fun l hl=>comp_mem hfm hs (l:=l) hl)
 have HE0:=Lib.hid (Env.new hx)
 have HE:=Lib.hid (HE0.out.step ((Below.refl _ _).alloc (Nat.le_refl _) (.map #[] 0)))
 have HO0:=Lib.hid (World.ownsMap_made (w.alloc (.cells (tabCells ⟨a0,a1,a2,a3,a4,a5,a6,a7,a8,.slice pm n cm,a10,a11⟩) 26)) Tryz.prog 161 (plainElem (H:=Unit) Tryz.prog 4))
 have hsz:(w.alloc (.cells (tabCells ⟨a0,a1,a2,a3,a4,a5,a6,a7,a8,.slice pm n cm,a10,a11⟩) 26)).heap.size=w.heap.size+1:=by simp
 rw[hsz]at HO0
 have hnle:n≤256:=by rw[←hn];exact H.len
 have HX:=Lib.hid hx
 have HH:=Lib.hid H
 have HN:=Lib.hid hn
 have HMI:=Lib.hid hmin
 have HFM:=Lib.hid hfm
 have hmm:=@run_makeMap Tryz.prog
 clear hx hn hmin hs hfm H hsz
 simp only[TV.agg]
 go_enter Tryz.func147,Tryz.ntmps147
 go_wp2
 clear hmm
 go_loopw [11] (fun i wr=>∃k:Nat,k≤n∧i = .int .i64 k∧Hid ((cmpTos T (T.dec.take k)).Nodup)∧Hid (Env w ⟨a0,a1,a2,a3,a4,a5,a6,a7,a8,.slice pm n cm,a10,a11⟩ T wr)∧Hid (wr.ownsMap Tryz.prog 161 (plainElem Tryz.prog 4) (w.heap.size+1) k (setP (cmpTos T (T.dec.take k))))) (fun i _=>n-(intOf i).toNat)
 case atStart=>exact⟨0,Nat.zero_le _,rfl,by simp[Hid,cmpTos],HE,HO0⟩
 case round =>
  obtain⟨k,hk,rfl,hnd,he,ho⟩:=hrel
  by_cases hlt:k<n
  ·have hkl:k<T.dec.length:=by rw[HN.out];exact hlt
   obtain⟨b,off,v,rfl,hc1,hc2,qa,cq,rfl,hi2,hm2⟩:=(HMI.out.below he.out.bel) k hkl
   have hsn:cmpTos T (T.dec.take (k+1))=cmpTos T (T.dec.take k)++if compT T (T.dec.getD k mp0).1=true then [(T.dec.getD k mp0).2]else []:=by
    rw[take_snoc_mp T.dec k hkl,cmpTos_snoc]
   have hf:=findM_at HH.out.dec k hkl
   have hwf0:=HWF.out (T.dec.take k) fun m hm=>List.mem_of_mem_take hm
   have hwf1:=HWF.out (T.dec.take (k+1)) fun m hm=>List.mem_of_mem_take hm
   obtain⟨⟨f,y⟩,hs⟩:∃s,T.dec.getD k mp0=s:=⟨_,rfl⟩
   rw[hs]at hc1 hc2 hsn hf hi2 hm2
   simp only at hc1 hc2 hsn hf hi2 hm2
   obtain⟨acc,hacc⟩:∃acc,cmpTos T (T.dec.take k)=acc:=⟨_,rfl⟩
   rw[hacc]at hsn hnd ho hwf0
   obtain⟨m,hm3⟩:∃m,y.length=m:=⟨_,rfl⟩
   obtain⟨C,hC⟩:∃C,Hid (compT T f=C):=⟨_,rfl⟩
   rw[hC.out]at hsn
   have hb0:Below wr.heap.size wr (wr.alloc (.cells #[.int .i64 f,.slice qa m cq] 73)):=(Below.refl _ _).alloc (Nat.le_refl _) _
   have HEb:=Lib.hid (he.out.step hb0)
   have HOb:=Lib.hid (ownsMap_below ho.out hb0)
   have HBM:=Lib.hid (BoxM.new wr f (.slice qa m cq) 73)
   have HY1:=Lib.hid (RowIn.alloc hi2 (.cells #[.int .i64 f,.slice qa m cq] 73))
   have hv:InV (wr.alloc (.cells #[.int .i64 f,.slice qa m cq] 73)) (.slice qa m cq) y:=⟨qa,cq,by rw[hm3],HY1.out,hm2⟩
   rw[hm3]at hc2 hm2
   have hcall:=composable_any T HH.out 256 _ f _ y _ (HH.out.dp f) hf HEb.out.tab hv
   rw[hC.out]at hcall
   have HC:=Lib.hid hcall
   have HSN:=Lib.hid hsn
   have HFF:=Lib.hid hf
   have HM3:=Lib.hid hm3
   have HACC:=Lib.hid hacc
   have HW0:=Lib.hid hwf0
   have HW1:=Lib.hid hwf1
   have hbx:=HEb.out.box
   simp only[BoxT]at hbx
   obtain⟨⟨k0,k1,k2,k3,k4,k5⟩,⟨k6,k7,k8,k9,k10,k11⟩⟩:=hbx
   clear hs hsn hf hb0 hv hcall hi2 hm3 hacc hwf0 hwf1
   go_wp2_with fail
   refine HC.out.mono ?_
   rintro e w2 ⟨rfl,hb2⟩
   have HE2:=Lib.hid (HEb.out.step hb2)
   have HO2:=Lib.hid (ownsMap_below HOb.out hb2)
   have HBM2:=Lib.hid (HBM.out.below hb2)
   have HY2:=Lib.hid (HY1.out.below hb2)
   clear hb2 k0 k1 k2 k3 k4 k5 k6 k7 k8 k9 k10 k11 hc1 hc2 HC
   cases C with
   | false =>
    have HT:Hid (cmpTos T (T.dec.take (k+1))=acc):=by unfold Hid;rw[HSN.out];simp
    go_wp2
    go_roundw
    case rel=>exact⟨k+1,by omega,by go_num,by rw[HT.out];exact hnd,HE2,by rw[HT.out];exact HO2.out.mono (Nat.le_succ _)⟩
    case measure=>simp[intOf];omega
   | true =>
    have HT:Hid (cmpTos T (T.dec.take (k+1))=acc++[y]):=by unfold Hid;rw[HSN.out];simp
    obtain⟨a,b',rfl,hwa,hwb⟩:=HW1.out y (by rw[HT.out];simp)
    obtain rfl:m=2:=HM3.out.symm
    obtain⟨be,offe,rfl,s0⟩:=HY2.out 0 (by simp)
    obtain⟨be',offe',ee,s1⟩:=HY2.out 1 (by simp)
    injection ee with ee
    injection ee with ee1 ee2
    subst ee1;subst ee2
    simp only[List.getD_cons_zero,List.getD_cons_succ,Nat.add_zero]at s0 s1
    obtain⟨m0,m1⟩:=HBM2.out
    have HWA:=Lib.hid hwa
    have HWB:=Lib.hid hwb
    clear hwa hwb
    go_upto_region 6 with(fail)
    go_cut [6] (fun v wx=>∃g,v = .pointer (some ⟨g,0,none⟩)∧Hid (wx.cell? ⟨g,0,none⟩=some (.int .i64 a))∧Hid (wx.cell? ⟨g,1,none⟩=some (.int .i64 b'))∧Hid (Below w2.heap.size w2 wx))
    case first =>
     go_region_held3 (fun w'=>w'.cell? ⟨wr.heap.size,1,none⟩=some (.slice (some ⟨be,offe,none⟩) 2 cq)∧w'.cell? ⟨be,offe,none⟩=some (.int .i64 a)∧w'.cell? ⟨be,offe+1,none⟩=some (.int .i64 b')) (go_keep) (first|fail)
     all_goals
      go_wp2_with fail
      go_meet
      refine⟨w2.heap.size,rfl,?_,?_,((Below.refl _ _).alloc (Nat.le_refl _) _).trans (by exact(drew_one (w2.alloc (.cells #[.int .i64 a,.int .i64 b'] 161))).mono (by simp))⟩
      ·unfold Hid;simp[World.cell?_alloc_new]
      ·unfold Hid;simp[World.cell?_alloc_new]
    case rest =>
     obtain⟨g,rfl,hg0,hg1,hbx⟩:=hcut
     have HE3:=Lib.hid (HE2.out.step hbx.out)
     have HO3:=Lib.hid (ownsMap_below HO2.out hbx.out)
     have hlk:=lookup_pair HO3.out HW0.out HWA.out HWB.out
     have g0:=hg0.out
     have g1:=hg1.out
     clear m0 m1 s0 s1
     by_cases hin:[a,b']∈acc
     ·have HF:Hid (r8 T=false):=by
       unfold Hid r8
       refine decide_eq_false (nodup_of_take (k+1) ?_)
       rw[HT.out]
       exact not_nodup_snoc hin
      rw[decide_eq_true hin]at hlk
      clear hin
      go_wp2
      go_ret
      rw[HF.out]
      exact⟨rfl,HE3.out.bel⟩
     ·have HND:Hid ((cmpTos T (T.dec.take (k+1))).Nodup):=by
       unfold Hid;rw[HT.out];exact nodup_snoc hnd.out hin
      rw[decide_eq_false hin]at hlk
      clear hin
      go_wp2_with (at_mapUpdate;refine wpList_mapUpdate_own _ rfl _ _ _ 178 rfl 161 4 pairLaw Tryz.underlying178 (plainElem Tryz.prog 4) (w.heap.size+1) k (setP acc) rfl HO3.out (by unfold maxLen;omega) _ _ (pairLit a b') rfl rfl (pair_key HWA.out HWB.out) (.lit (.bool true)) [] (plainElem_bool Tryz.underlying4 true) ?_;intro w4 hown4 hg4)
      have HE4:=Lib.hid (HE3.out.grown HX.out hg4 (Nat.lt_succ_self _))
      have HO4:Hid (w4.ownsMap Tryz.prog 161 (plainElem Tryz.prog 4) (w.heap.size+1) (k+1) (setP (cmpTos T (T.dec.take (k+1))))):=by
       unfold Hid;rw[HT.out,setP_snoc];exact hown4
      clear hown4 hg4 hlk g0 g1
      go_wp2
      go_roundw
      case rel=>exact⟨k+1,by omega,by go_num,HND,HE4,HO4⟩
      case measure=>simp[intOf];omega
  ·obtain rfl:k=n:=by omega
   have HT:Hid (r8 T=true):=by
    have:=hnd.out
    rw[List.take_of_length_le (Nat.le_of_eq HN.out)]at this
    exact decide_eq_true this
   go_wp2
   go_ret
   rw[HT.out]
   exact⟨rfl,he.out.bel⟩
end Go.Proofs.YtblcoicaeeiojaaGreatDoor
