/- decompose: appendFull, by recursion over the depth of decomp -/
import Derived.Test.YtblcoicaeeiojaaGreatDoorSSiPmOrdEnv
import Derived.Test.YtblcoicaeeiojaaGreatDoorSSiPmSplFact
import Derived.Test.YtblcoicaeeiojaaGreatDoorSSiPmTabW
set_option linter.unusedSimpArgs false
set_option linter.unusedVariables false
namespace Go.Proofs.YtblcoicaeeiojaaGreatDoor
open Go.RowKit
theorem Ints.cells_in {w:World} {B n c:Nat} {p:Option Addr} {xs:List Int} (h:Ints w B (.slice p n c) xs):IntsIn w p xs:=by
 obtain⟨p',c',e,hi⟩:=h.inn
 injection e with e1 _ _
 subst e1
 exact hi
def AppOk (T:Tb) (c:Int):Prop:=∀(w0:World) (x:TV) (v:Value) (xs:List Int) (w:World),TabV w0 x T→Below w0.heap.size w0 w→Ints w w0.heap.size v xs→xs.length+(expT T c).length≤1000000→
 Calls Tryz.prog 225 #[v,x.agg,.int .i64 c] w (AppPost w0.heap.size v (xs++expT T c) w)
set_option maxRecDepth 100000 in
set_option maxHeartbeats 4000000 in
theorem appOk_step (T:Tb) (c:Int) (hc:checkT T=0) (hrec:∀y∈findM T.dec c,AppOk T y):AppOk T c:=by
 intro w0 x v xs w hx hbw hv hlen
 obtain⟨J,hJ⟩:∃J,Hid (decS c=J):=⟨_,rfl⟩
 obtain⟨F,hF⟩:∃F,Hid (findM T.dec c=F):=⟨_,rfl⟩
 obtain⟨X,hX⟩:∃X,Hid (expT T c=X):=⟨_,rfl⟩
 obtain⟨n,hn⟩:∃n,J.length=n:=⟨_,rfl⟩
 obtain⟨m,hm⟩:∃m,F.length=m:=⟨_,rfl⟩
 have hm18:m≤18:=by rw[←hm,←hF.out];exact dec_length hc c
 rw[hX.out]at hlen ⊢
 have HX1:Hid (J≠[]→X=J):=fun h=>by rw[←hX.out];unfold expT;rw[hJ.out,if_neg h]
 have HX2:Hid (J=[]→F=[]→X=[c]):=fun h1 h2=>by rw[←hX.out];exact exp_one (by rw[hJ.out];exact h1) (by rw[hF.out];exact h2)
 have HX3:Hid (J=[]→F≠[]→X=flatT T F):=fun h1 h2=>by rw[←hX.out,exp_rec hc (by rw[hJ.out];exact h1) (by rw[hF.out];exact h2),hF.out]
 have HREC:Hid (∀y∈F,AppOk T y):=by rw[←hF.out];exact hrec
 have HA:Hid (ascI 0 1114111 (froms T.dec)=true):=(r2_key (check_rules hc).2.1).2.2.1
 have HE:=Lib.hid (Env.new (hx.below hbw))
 have HX:=Lib.hid hx
 have HBW:=Lib.hid hbw
 have HV:=Lib.hid hv
 have HLEN:=Lib.hid hlen
 have HN:=Lib.hid hn
 have HM:=Lib.hid hm
 have HSZ:Hid (w0.heap.size≤w.heap.size):=hbw.size
 have HNB:Hid (∀b,w.heap.size≤b→v.ownBlock≠some b):=fun b hb e=>by have:=(World.ownsRow.lt hv b e).2;omega
 clear hx hbw hv hlen hn hm hrec hc hX
 simp only[TV.agg]
 go_enter Tryz.func225,Tryz.ntmps225
 go_wp2_with fail
 refine(hdec_at c J _ hJ).mono ?_
 rintro e w1 ⟨pj,cj,rfl,hij,hb1⟩
 rw[HN.out]
 replace HE:=Lib.hid (HE.out.step hb1)
 have HV1:=Lib.hid (HV.out.below HE.out.bel)
 have HS1:Hid (w.heap.size≤w1.heap.size):=HE.out.bel.size
 have HIJ:=Lib.hid hij
 clear hij hb1
 by_cases h0:0<n
 ·have d0:decide ((0:Int)<(n:Int))=true:=decide_eq_true (by omega)
  have HXJ:Hid (X=J):=HX1.out (fun e=>by have:=HN.out;rw[e]at this;simp at this;omega)
  have HLJ:Hid (xs.length+J.length≤17592186043904):=by have:=HLEN.out;rw[HXJ.out]at this;unfold Hid;omega
  go_wp2_with (at_builtin;(refine wpList_append_ints_at (.tmp 16) (.tmp 17) rfl rfl w0.heap.size v xs rfl HV1.out pj n cj J HN.out rfl HIJ.out HLJ.out (Nat.le_trans HSZ.out HS1.out) ?_);intro v1 w2 ho1 hg1 hof1)
  have HO1:Hid (Ints w2 w0.heap.size v1 (xs++X)):=by unfold Hid;rw[HXJ.out];exact ho1
  have HG1:=Lib.hid (grownBy_trans (below_grownBy HE.out.bel v.ownBlock) hg1)
  have HF1:Hid (∀b,b<w.heap.size→v.ownBlock≠some b→v1.ownBlock≠some b):=fun b hb=>off_new hof1 b (Nat.lt_of_lt_of_le hb HS1.out)
  clear ho1 hg1 hof1
  go_wp2
  go_ret
  exact⟨_,rfl,HO1.out,HG1.out,HF1.out⟩
 ·obtain rfl:n=0:=by omega
  have HJ0:Hid (J=[]):=List.eq_nil_of_length_eq_zero HN.out
  clear h0
  obtain⟨⟨k0,k1,k2,k3,k4,k5⟩,⟨k6,k7,k8,k9,k10,k11⟩⟩:=HE.out.box.load
  go_wp2_with fail
  refine(tdecomp_own x T c F _ HE.out.tab HA.out hF).mono ?_
  rintro e w2 ⟨vF,rfl,hoF,hb2⟩
  obtain⟨pF,cF,hvF,hiF⟩:=hoF.inn
  rw[HM.out]at hvF
  subst hvF
  replace HE:=Lib.hid (HE.out.step hb2)
  have HV2:=Lib.hid (HV1.out.below hb2)
  have HS2:Hid (w.heap.size≤w2.heap.size):=HE.out.bel.size
  have HOF:=Lib.hid hoF
  clear hoF hb2 hiF k0 k1 k2 k3 k4 k5 k6 k7 k8 k9 k10 k11
  by_cases hm0:m=0
  ·subst hm0
   have HF0:Hid (F=[]):=List.eq_nil_of_length_eq_zero HM.out
   have HXC:Hid (X=[c]):=HX2.out HJ0.out HF0.out
   have HLC:Hid (xs.length+([c]:List Int).length≤17592186043904):=by have:=HLEN.out;rw[HXC.out]at this;unfold Hid;omega
   have HV3:Hid (Ints (w2.alloc (.cells #[.int .i64 c] 3)) w0.heap.size v xs):=HV2.out.alloc _
   have HI3:Hid (IntsIn (w2.alloc (.cells #[.int .i64 c] 3)) (some ⟨w2.heap.size,0,none⟩) [c]):=one_int w2 c 3
   have HBS:Hid (Below w.heap.size w (w2.alloc (.cells #[.int .i64 c] 3))):=HE.out.bel.alloc HE.out.bel.size _
   have HZ3:Hid (w0.heap.size≤(w2.alloc (.cells #[.int .i64 c] 3)).heap.size):=Nat.le_trans HSZ.out HBS.out.size
   go_wp2_with (at_builtin;(refine wpList_append_ints_at (.tmp 25) (.tmp 27) rfl rfl w0.heap.size v xs rfl HV3.out (some ⟨w2.heap.size,0,none⟩) 1 1 [c] rfl rfl HI3.out HLC.out HZ3.out ?_);intro v1 w3 ho1 hg1 hof1)
   have HO1:Hid (Ints w3 w0.heap.size v1 (xs++X)):=by unfold Hid;rw[HXC.out];exact ho1
   have HG1:=Lib.hid (grownBy_trans (below_grownBy HBS.out v.ownBlock) hg1)
   have HF1:Hid (∀b,b<w.heap.size→v.ownBlock≠some b→v1.ownBlock≠some b):=fun b hb=>off_new hof1 b (Nat.lt_of_lt_of_le hb HBS.out.size)
   clear ho1 hg1 hof1
   go_wp2
   go_ret
   exact⟨_,rfl,HO1.out,HG1.out,HF1.out⟩
  ·have dm:((m:Int)==0)=false:=by simp;omega
   have HXF:Hid (X=flatT T F):=HX3.out HJ0.out (fun e=>by have:=HM.out;rw[e]at this;simp at this;omega)
   have HQ:Hid (∀b,(Value.slice pF m cF).ownBlock=some b→v.ownBlock≠some b):=fun b hb=>HNB.out b (Nat.le_trans HS1.out (World.ownsRow.lt HOF.out b hb).1)
   clear hm0
   go_wp2
   go_loopw [0,10,31] (fun u _ i wr=>∃k:Nat,k≤m∧i = .int .i64 k∧Hid (Chn w0.heap.size w2 v u (xs++flatT T (F.take k)) wr)) (fun _ _ i _=>m-(intOf i).toNat)
   case atStart=>exact⟨0,Nat.zero_le _,rfl,by simpa[Hid,flatT] using Chn.start HV2.out⟩
   case round =>
    obtain⟨k,hk,rfl,hch⟩:=hrel
    by_cases hlt:k<m
    ·have hkl:k<F.length:=by rw[HM.out];exact hlt
     obtain⟨b,off,rfl,hck⟩:=(hch.out.kept HOF.out HQ.out).cells_in k hkl
     obtain⟨y,hy⟩:∃y,F.getD k 0=y:=⟨_,rfl⟩
     have hmem:y∈F:=by rw[←hy];simp[hkl]
     have hpre:=all_pre T F (k+1)
     have htk:=all_take T F k hkl
     rw[hy]at hck htk
     rw[htk]at hpre
     have hcall:=HREC.out y hmem w0 x u0 (xs++flatT T (F.take k)) wr HX.out (hch.out.bel HV2.out (HBW.out.trans (HE.out.bel.mono HSZ.out))) hch.out.row (by have:=HLEN.out;rw[HXF.out]at this;simp only[List.length_append]at hpre ⊢;omega)
     rw[List.append_assoc,←htk]at hcall
     have HCALL:=Lib.hid hcall
     have hbx:=hch.out.box HE.out.box (HNB.out _ (Nat.le_refl _))
     obtain⟨⟨k0,k1,k2,k3,k4,k5⟩,⟨k6,k7,k8,k9,k10,k11⟩⟩:=hbx.load
     clear hbx hcall hpre htk hy hmem
     go_wp2_with fail
     refine HCALL.out.mono ?_
     rintro e w3 ⟨v3,rfl,ho3,hg3,hof3⟩
     have HCH:=Lib.hid (hch.out.write ho3 hg3 hof3)
     clear ho3 hg3 hof3 k0 k1 k2 k3 k4 k5 k6 k7 k8 k9 k10 k11 hck HCALL
     go_wp2
     go_roundw
     case rel=>exact⟨k+1,by omega,by go_num,HCH⟩
     case measure=>simp[intOf];omega
    ·obtain rfl:k=m:=by omega
     have hfin:=hch.out
     rw[List.take_of_length_le (Nat.le_of_eq HM.out),←HXF.out]at hfin
     have HP:=Lib.hid (hfin.post HE.out.bel)
     have HO1:=Lib.hid hfin.row
     clear hfin
     go_wp2
     go_ret
     exact⟨_,rfl,HO1.out,HP.out.1,HP.out.2⟩
theorem appOk_dp {T:Tb} (hc:checkT T=0) (k:Nat):∀c,Dp T.dec k c→AppOk T c:=by
 induction k with
 | zero =>
  intro c hd
  refine appOk_step T c hc ?_
  intro y hy
  have hd0:findM T.dec c=[]:=hd
  rw[hd0]at hy
  cases hy
 | succ k ih =>
  intro c hd
  exact appOk_step T c hc fun y hy=>ih y (hd y hy)
theorem appendFull_any {T:Tb} (hc:checkT T=0) (c:Int):AppOk T c:=appOk_dp hc 256 c (dec_dp hc c)
set_option maxHeartbeats 1000000 in
theorem equal_at (v u : Value) (xs ys : List Int) (B : Bool) (w : World) (hv : InV w v xs) (hu : InV w u ys) (hB : Hid ((xs == ys) = B)) :
  Calls Tryz.prog 233 #[v,u] w (Gives (.bool B) w):=by
 obtain⟨p,c,rfl,hx,hxl⟩:=hv
 obtain⟨q,d,rfl,hy,hyl⟩:=hu
 by_cases hl:xs.length=ys.length
 ·have hne:((xs.length:Int) !=(ys.length:Int))=false:=by simp[hl]
  have HX:=Lib.hid hx
  have HY:=Lib.hid hy
  have HL:=Lib.hid hl
  clear hl hx hy
  go_enter Tryz.func233,Tryz.ntmps233
  go_wp2
  go_loopw [5,13] (fun _ i wr=>∃k:Nat,k≤xs.length∧i = .int .i64 k∧Hid (xs.take k=ys.take k)∧Below w.heap.size w wr) (fun _ i _=>xs.length-(intOf i).toNat)
  case atStart=>exact⟨0,Nat.zero_le _,rfl,rfl,Below.refl _ _⟩
  case round =>
   obtain⟨k,hk,rfl,ht,hbel⟩:=hrel
   by_cases hlt:k<xs.length
   ·obtain⟨b1,o1,rfl,hc1⟩:=(HX.out.below hbel) k hlt
    obtain⟨b2,o2,rfl,hc2⟩:=(HY.out.below hbel) k (by rw[←HL.out];exact hlt)
    have hlt2:k<ys.length:=by rw[←HL.out];exact hlt
    obtain⟨x,hxx⟩:∃x,xs.getD k 0=x:=⟨_,rfl⟩
    obtain⟨y,hyy⟩:∃y,ys.getD k 0=y:=⟨_,rfl⟩
    rw[hxx]at hc1
    rw[hyy]at hc2
    by_cases hxy:x=y
    ·have hb:(x !=y)=false:=by simp[hxy]
     have HS:Hid (xs.take (k+1)=ys.take (k+1)):=beq_take_snoc xs ys k hlt hlt2 ht.out (by rw[hxx,hyy,hxy])
     clear hxx hyy hxy
     go_wp2
     go_quiet (fail)
     go_wp2
     go_roundw
     case rel=>exact⟨k+1,by omega,by go_num,HS,below_drewN hbel _⟩
     case measure=>simp[intOf];omega
    ·have hb:(x !=y)=true:=by simp[hxy]
     have HS:Hid (B=false):=by unfold Hid;rw[←hB.out];exact ne_of_getD xs ys k (by rw[hxx,hyy];exact hxy)
     clear hxx hyy hxy
     go_wp2
     go_quiet (fail)
     go_wp2
     go_ret
     rw[HS.out]
     exact⟨rfl,below_drewN hbel _⟩
   ·obtain rfl:k=xs.length:=by omega
    have HS:Hid (B=true):=by
     have:=ht.out
     rw[List.take_length,HL.out,List.take_length]at this
     unfold Hid;rw[←hB.out];simp[this]
    go_wp2
    go_ret
    rw[HS.out]
    exact⟨rfl,hbel⟩
 ·have hne:((xs.length:Int) !=(ys.length:Int))=true:=by simp;omega
  have HS:Hid (B=false):=by
   unfold Hid;rw[←hB.out]
   simp only[beq_eq_false_iff_ne,ne_eq]
   rintro rfl
   exact hl rfl
  clear hl hx hy
  go_enter Tryz.func233,Tryz.ntmps233
  go_wp2
  go_ret
  rw[HS.out]
  exact⟨rfl,Below.refl _ _⟩
set_option maxRecDepth 100000 in
set_option maxHeartbeats 4000000 in
theorem nfd_at (x : TV) (T : Tb) (p : Option Addr) (cap : Nat) (zs : List Int) (E : Int) (L : List Int) (w : World) (hx : TabV w x T) (hr : Rsv w) (hin : IntsIn w p zs) (hl : zs.length ≤ 17592186043904)
  (hE:Hid (nfdE T zs=E)) (hL:Hid (nfdL T zs=L)) :
  Calls Tryz.prog 153 #[x.agg,.slice p zs.length cap] w (LRet L E w):=by
 obtain⟨A,hA⟩:∃A,Hid (accE T zs=A):=⟨_,rfl⟩
 obtain⟨R,hR⟩:∃R,Hid (runsL T zs=R):=⟨_,rfl⟩
 have HE:=Lib.hid (Env.new hx)
 have HX:=Lib.hid hx
 have HI:=Lib.hid hin
 have HR:=Lib.hid hr
 obtain⟨n,hn⟩:∃n,zs.length=n:=⟨_,rfl⟩
 have hrun:=fun W (h1:TabV W x T) h2 h3=>runs_at x T p cap zs A R W h1 h2 h3 hl hA hR
 rw[hn]at hl hrun ⊢
 have HN:=Lib.hid hn
 have HRUN:=Lib.hid hrun
 clear hx hr hin hn hrun
 simp only[TV.agg]
 go_enter Tryz.func153,Tryz.ntmps153
 obtain⟨⟨k0,k1,k2,k3,k4,k5⟩,⟨k6,k7,k8,k9,k10,k11⟩⟩:=HE.out.box.load
 go_wp2_with fail
 refine(HRUN.out _ HE.out.tab (HR.out.below HE.out.bel) (HI.out.below HE.out.bel)).mono ?_
 rintro e w1 ⟨v1,rfl,ho1,hb1⟩
 have hwb:∃wb:World,Env w x T wb∧wb.heap.size=w.heap.size+1∧Below wb.heap.size wb w1:=⟨_,HE.out,by simp,hb1⟩
 clear HE ho1 hb1 k0 k1 k2 k3 k4 k5 k6 k7 k8 k9 k10 k11
 obtain⟨wb,he0,hsz,hb1⟩:=hwb
 have HE0:=Lib.hid he0
 have HSZ:=Lib.hid hsz
 have HB1:=Lib.hid hb1
 clear he0 hsz hb1
 by_cases h0:A=0
 ·subst h0
  have hn4:n≤4096:=by rw[←HN.out];exact(accE_ok hA.out).2.1
  have HV:Hid (checkT T=0):=(accE_ok hA.out).1
  have hmk:=run_make_ints0 n (by omega)
  go_wp2
  go_loopw [8,10,25] (fun u _ i wr=>∃k:Nat,k≤n∧i = .int .i64 k∧Hid ((flatT T (zs.take k)).length≤4096)∧Hid (Ints wr wb.heap.size u (flatT T (zs.take k)))∧Hid (Below wb.heap.size wb wr)) (fun _ _ i _=>n-(intOf i).toNat)
  case atStart=>exact⟨0,Nat.zero_le _,rfl,by simp[Hid,flatT],by simpa[Hid,flatT] using Ints.made w1 wb.heap.size n HB1.out.size (by omega),HB1.out.alloc HB1.out.size _⟩
  case round =>
   obtain⟨k,hk,rfl,hlen,hown,hbel⟩:=hrel
   have he:=Lib.hid (HE0.out.step hbel.out)
   by_cases hlt:k<n
   ·have hkl:k<zs.length:=by rw[HN.out];exact hlt
    obtain⟨b,off,rfl,hck⟩:=(HI.out.below he.out.bel) k hkl
    obtain⟨c,hc⟩:∃c,zs.getD k 0=c:=⟨_,rfl⟩
    have htk:=all_take T zs k hkl
    have hpre:=all_pre T zs (k+1)
    rw[hc]at hck htk
    have hcall:=appendFull_any HV.out c wb x u8 (flatT T (zs.take k)) wr HE0.out.tab hbel.out hown.out (by have:=(exp_len HV.out c).2;have:=hlen.out;omega)
    rw[←htk]at hcall
    have HCALL:=Lib.hid hcall
    have HPRE:=Lib.hid hpre
    clear hc hcall htk hpre
    obtain⟨⟨k0,k1,k2,k3,k4,k5⟩,⟨k6,k7,k8,k9,k10,k11⟩⟩:=he.out.box.load
    go_wp2_with fail
    refine HCALL.out.mono ?_
    rintro e w3 ⟨v3,rfl,ho3,hg3,hof3⟩
    have HB3:=Lib.hid (hbel.out.grown hg3 hbel.out.size hown.out.base)
    obtain⟨p3,c3,hv3,hi3⟩:=ho3.inn
    have HO3:=Lib.hid ho3
    obtain⟨nn,hnn⟩:∃nn,(flatT T (zs.take (k+1))).length=nn:=⟨_,rfl⟩
    rw[hnn]at hv3
    subst hv3
    have HNN:=Lib.hid hnn
    clear ho3 hg3 hof3 hi3 hnn k0 k1 k2 k3 k4 k5 k6 k7 k8 k9 k10 k11 hck HCALL
    by_cases hbig:4096<nn
    ·have d1:decide ((4096:Int)<(nn:Int))=true:=decide_eq_true (by omega)
     have hEE:nfdE T zs=7:=nfdE_full hA.out (by have:=HPRE.out;have:=HNN.out;omega)
     have HEE:Hid (E=7):=by unfold Hid;rw[←hE.out];exact hEE
     have HLL:Hid (L=[]):=by unfold Hid;rw[←hL.out];exact nfdL_err (by rw[hEE];decide)
     have HBB:=Lib.hid (HE0.out.step HB3.out).bel
     clear hbig hEE
     go_wp2
     go_ret2
     rw[HEE.out,HLL.out]
     exact⟨_,rfl,Ints.nil _ _,HBB.out⟩
    ·have d1:decide ((4096:Int)<(nn:Int))=false:=decide_eq_false (by omega)
     have d2:¬(4096<nn):=hbig
     have HLE:Hid ((flatT T (zs.take (k+1))).length≤4096):=by unfold Hid;rw[HNN.out];omega
     clear hbig
     go_wp2
     go_roundw
     case rel=>exact⟨k+1,by omega,by go_num,HLE,HO3,HB3⟩
     case measure=>simp[intOf];omega
   ·obtain rfl:k=n:=by omega
    have hlen2:=hlen.out
    have hown2:=hown.out
    rw[List.take_of_length_le (Nat.le_of_eq HN.out)]at hlen2 hown2
    have hacc:=nfd_acc hA.out hlen2
    have HEE:Hid (E=0):=by unfold Hid;rw[←hE.out];exact nfdE_ok hA.out hlen2
    have HAC:=Lib.hid hacc.1
    have HOL:Hid (ordL T (flatT T zs)=L):=hacc.2.trans hL.out
    obtain⟨pu,cu,hu,hiu⟩:=hown2.inn
    have HIU:=Lib.hid hiu
    obtain⟨nn,hnn⟩:∃nn,(flatT T zs).length=nn:=⟨_,rfl⟩
    have hord:=fun W (h1:TabV W x T) h2 h3=>order_at x T pu cu (flatT T zs) 0 L W h1 h2 h3 (by omega) HAC HOL
    rw[hnn]at hu hord
    subst hu
    have HORD:=Lib.hid hord
    have HOW:Hid (Below w.heap.size w wr):=he.out.bel
    clear hlen2 hown2 hacc hiu hnn hord
    obtain⟨⟨k0,k1,k2,k3,k4,k5⟩,⟨k6,k7,k8,k9,k10,k11⟩⟩:=he.out.box.load
    go_wp2_with fail
    refine(HORD.out _ he.out.tab (HR.out.below he.out.bel) HIU.out).mono ?_
    rintro e w3 ⟨v3,rfl,ho3,hb3⟩
    have HO3:=Lib.hid (ho3.mono HOW.out.size)
    have HB3:=Lib.hid (HOW.out.trans (hb3.mono HOW.out.size))
    clear ho3 hb3 k0 k1 k2 k3 k4 k5 k6 k7 k8 k9 k10 k11
    go_wp2
    go_ret2
    rw[HEE.out]
    exact⟨_,rfl,HO3.out,HB3.out⟩
 ·have d0:(A !=0)=true:=by simp[h0]
  have HEE:Hid (E=A):=by unfold Hid;rw[←hE.out,←hA.out];exact nfdE_acc (by rw[hA.out];exact h0)
  have HLL:Hid (L=[]):=by unfold Hid;rw[←hL.out];exact nfdL_err (by rw[nfdE_acc (by rw[hA.out];exact h0),hA.out];exact h0)
  have HBB:=Lib.hid (HE0.out.step HB1.out).bel
  clear h0
  go_wp2
  go_ret2
  rw[HEE.out,HLL.out]
  exact⟨_,rfl,Ints.nil _ _,HBB.out⟩
theorem asc_of_spOk {l:List Sp} (h:spOk l=true):ascB 0 l=true:=by
 unfold spOk at h
 simp only[Bool.and_eq_true]at h
 exact h.1
theorem asc_map {T:Tb} (h:r2 T=true):ascI 0 1114111 (froms T.map)=true:=by
 unfold r2 at h
 simp only[Bool.and_eq_true]at h
 exact ascI_of_keyOk h.2.2.1
theorem sta_range {T:Tb} (h:checkT T=0) (c:Int):0≤staT T c∧staT T c≤4:=by
 have h3:=(check_rules h).2.2.1
 unfold r3 at h3
 simp only[Bool.and_eq_true]at h3
 have h5:=h3.2.2.2.2.2.1
 unfold valOk at h5
 unfold staT
 cases hv:val T.sta c with
 | some v =>
  obtain⟨s,hs,_,_,rfl⟩:=val_mem hv
  have:=List.all_eq_true.1 h5 s hs
  simpa using this
 | none =>
  rw[Option.getD_none]
  unfold fixT
  split
  ·omega
  ·split<;>omega
theorem refusal_at (x : TV) (T : Tb) (p : Option Addr) (cap : Nat) (zs : List Int) (E : Int) (w : World) (hx : TabV w x T) (hr : Rsv w) (hin : IntsIn w p zs) (hl : zs.length ≤ 17592186043904) (hE : Hid (accE T zs = E)) :
  Calls Tryz.prog 150 #[x.agg,.slice p zs.length cap] w (Gives (.int .i64 E) w):=by
 obtain⟨RL,hRL⟩:∃L,Hid (runsL T zs=L):=⟨_,rfl⟩
 have hac:=fun W (h1:TabV W x T) h2 h3=>runs_at x T p cap zs E RL W h1 h2 h3 hl hE hRL
 have HR:=Lib.hid hr
 have HE:=Lib.hid (Env.new hx)
 have HI:=Lib.hid hin
 obtain⟨n,hn⟩:∃n,zs.length=n:=⟨_,rfl⟩
 rw[hn]at hl hac ⊢
 have HAC:=Lib.hid hac
 clear hx hin hn hr hac
 simp only[TV.agg]
 go_enter Tryz.func150,Tryz.ntmps150
 obtain⟨⟨k0,k1,k2,k3,k4,k5⟩,⟨k6,k7,k8,k9,k10,k11⟩⟩:=HE.out.box.load
 go_wp2_with fail
 refine(HAC.out _ HE.out.tab (HR.out.below HE.out.bel) (HI.out.below HE.out.bel)).mono ?_
 rintro e w1 ⟨v0,rfl,_,hb1⟩
 replace HE:=Lib.hid (HE.out.step hb1)
 clear hb1 k0 k1 k2 k3 k4 k5 k6 k7 k8 k9 k10 k11
 go_wp2
 go_ret
 exact⟨rfl,HE.out.bel⟩
set_option maxRecDepth 100000 in
set_option maxHeartbeats 8000000 in
theorem map_at (x : TV) (T : Tb) (p : Option Addr) (cap : Nat) (zs : List Int) (L : List Int) (K : Nat) (E : Int) (w : World) (hx : TabV w x T) (hr : Rsv w) (hin : IntsIn w p zs) (hl : zs.length ≤ 17592186043904) (hR : Hid (mapR T zs = (L, K, E))) :
  Calls Tryz.prog 103 #[x.agg,.slice p zs.length cap] w (MapRet L K E w):=by
 obtain⟨A,hA⟩:∃A,Hid (accE T zs=A):=⟨_,rfl⟩
 have HR:=Lib.hid hr
 have HE:=Lib.hid (Env.new hx)
 have HX:=Lib.hid hx
 have HI:=Lib.hid hin
 have hac:=fun W (h1:TabV W x T) h2 h3=>refusal_at x T p cap zs A W h1 h2 h3 hl hA
 obtain⟨n,hn⟩:∃n,zs.length=n:=⟨_,rfl⟩
 rw[hn]at hl hac ⊢
 have HN:=Lib.hid hn
 have HAC:=Lib.hid hac
 clear hx hin hn hr hac
 simp only[TV.agg]
 go_enter Tryz.func103,Tryz.ntmps103
 obtain⟨⟨k0,k1,k2,k3,k4,k5⟩,⟨k6,k7,k8,k9,k10,k11⟩⟩:=HE.out.box.load
 go_wp2_with fail
 refine(HAC.out _ HE.out.tab (HR.out.below HE.out.bel) (HI.out.below HE.out.bel)).mono ?_
 rintro e w1 ⟨rfl,hb1⟩
 have HZ:Hid (w.heap.size+1≤w1.heap.size):=by have:=hb1.size;unfold Hid;simpa using this
 replace HE:=Lib.hid (HE.out.step hb1)
 clear hb1 k0 k1 k2 k3 k4 k5 k6 k7 k8 k9 k10 k11
 by_cases h0:A=0
 ·subst h0
  have hn4:n≤4096:=by rw[←HN.out];exact(accE_ok hA.out).2.1
  have HV:Hid (checkT T=0):=(accE_ok hA.out).1
  have HSC:Hid (zs.all scaB=true):=(accE_ok hA.out).2.2
  have HSTA:Hid (ascB 0 T.sta=true):=asc_of_spOk (r2_sta (check_rules HV.out).2.1)
  have HMAP:Hid (ascI 0 1114111 (froms T.map)=true):=asc_map (check_rules HV.out).2.1
  have hmk:=run_make_ints0 n (by omega)
  go_wp2
  go_loopw [8,22] (fun u i wr=>∃k:Nat,k≤n∧i = .int .i64 k∧Hid (Ints wr (w.heap.size+1) u (mapF T (zs.take k)))∧Hid (∀j,j<k→staT T (zs.getD j 0)≠0)∧Hid (Env w x T wr)∧Hid (w.heap.size+1≤wr.heap.size)) (fun _ i _=>n-(intOf i).toNat)
  case atStart=>exact⟨0,Nat.zero_le _,rfl,by simpa[Hid,mapF] using Ints.made w1 (w.heap.size+1) n HZ.out (by omega),fun j hj=>by omega,HE.out.step ((Below.refl _ _).alloc (Nat.le_refl _) _),by have:=HZ.out;simp[Hid];omega⟩
  case round =>
   obtain⟨k,hk,rfl,hown,hgd,he,HH⟩:=hrel
   by_cases hlt:k<n
   ·have hkl:k<zs.length:=by rw[HN.out];exact hlt
    obtain⟨b,off,rfl,hck⟩:=(HI.out.below he.out.bel) k hkl
    obtain⟨c,hc⟩:∃c,zs.getD k 0=c:=⟨_,rfl⟩
    rw[hc]at hck
    obtain⟨z,hz⟩:∃z,Hid (staT T c=z):=⟨_,rfl⟩
    have hsn:=mapF_snoc T zs k hkl
    have hml:=mapF_lenT HV.out HSC.out k
    rw[hc]at hsn
    have HSN:=Lib.hid hsn
    have HGD2:Hid (z≠0→∀j,j<k+1→staT T (zs.getD j 0)≠0):=fun hz0 j hj=>by
     by_cases e:j=k
     ·subst e;rw[hc,hz.out];exact hz0
     ·exact hgd.out j (by omega)
    have HBAD:Hid (z=0→badK T 0 zs=some k):=fun hz0=>by
     have:=badK_first 0 zs k hkl hgd.out (by rw[hc,hz.out];exact hz0)
     rwa[Nat.zero_add]at this
    have HSR:Hid (0≤z∧z≤4):=by have:=sta_range HV.out c;rw[hz.out]at this;exact this
    have HCS:Hid (scaB c=true):=by unfold Hid;exact List.all_eq_true.1 HSC.out c (by rw[←hc];simp[hkl])
    have HML:=Lib.hid hml
    clear hc hsn hml hgd hkl
    obtain⟨⟨k0,k1,k2,k3,k4,k5⟩,⟨k6,k7,k8,k9,k10,k11⟩⟩:=he.out.box.load
    go_wp2_with fail
    refine(status_at x T c z _ he.out.tab HSTA.out hz).mono ?_
    rintro e w2 ⟨rfl,hb2⟩
    have HE2:=Lib.hid (he.out.step hb2)
    have HO2:=Lib.hid (hown.out.below hb2)
    have hbz:w.heap.size+1≤w2.heap.size:=Nat.le_trans HH.out hb2.size
    clear hb2 hown he hck k0 k1 k2 k3 k4 k5 k6 k7 k8 k9 k10 k11
    by_cases hz0:z=0
    ·have d1:(z==1)=false:=by simp[hz0]
     have d4:(z==4)=false:=by simp[hz0]
     have d3:(z==3)=false:=by simp[hz0]
     have d2:(z==2)=false:=by simp[hz0]
     have HR2:Hid (L=[]∧K=k∧E=16):=by
      have:=hR.out
      rw[mapR_bad hA.out (HBAD.out hz0)]at this
      injection this with e1 e2
      injection e2 with e2 e3
      exact⟨e1.symm,e2.symm,e3.symm⟩
     obtain⟨e1,e2,e3⟩:=HR2.out
     subst e1;subst e2;subst e3
     clear hz0
     go_wp2
     go_ret3
     exact⟨_,rfl,Ints.nil _ _,HE2.out.bel⟩
    ·have HGD3:=Lib.hid (HGD2.out hz0)
     by_cases hz3:z=3
     ·have d1:(z==1)=false:=by simp[hz3]
      have d4:(z==4)=false:=by simp[hz3]
      have d3:(z==3)=true:=by simp[hz3]
      obtain⟨X,hX⟩:∃X,Hid (mapsT T c=X):=⟨_,rfl⟩
      have HSN2:Hid (mapF T (zs.take (k+1))=mapF T (zs.take k)++X):=by unfold Hid;rw[HSN.out,map1_map (by rw[hz.out,hz3]),hX.out]
      have HXL:Hid (X.length≤18):=by
       have:=(map1_sca HV.out HCS.out).1
       rw[map1_map (by rw[hz.out,hz3]),hX.out]at this
       exact this
      obtain⟨⟨k0,k1,k2,k3,k4,k5⟩,⟨k6,k7,k8,k9,k10,k11⟩⟩:=HE2.out.box.load
      clear hz0 hz3
      go_wp2_with fail
      refine(tmaps_at x T c X _ HE2.out.tab HMAP.out hX).mono ?_
      rintro e w3 ⟨p3,n3,c3,rfl,hl3,hn3,hi3,hb3⟩
      have HE3:=Lib.hid (HE2.out.step hb3)
      have HO3:=Lib.hid (HO2.out.below hb3)
      have hbz3:w.heap.size+1≤w3.heap.size:=Nat.le_trans hbz hb3.size
      have HL3:=Lib.hid hl3
      have HI3:=Lib.hid hi3
      clear hb3 hl3 hn3 hi3 k0 k1 k2 k3 k4 k5 k6 k7 k8 k9 k10 k11
      go_wp2_with (at_builtin;(refine wpList_append_ints (.tmp 40) (.tmp 43) rfl rfl (w.heap.size+1) u8 (mapF T (zs.take k)) rfl HO3.out p3 n3 c3 X HL3.out rfl HI3.out (by have:=HML.out;have:=HXL.out;omega) hbz3 ?_);intro v4 w4 ho4 hg4)
      have HO4:Hid (Ints w4 (w.heap.size+1) v4 (mapF T (zs.take (k+1)))):=by unfold Hid;rw[HSN2.out];exact ho4
      have HE4:Hid (Env w x T w4):=HE3.out.app HX.out HO3.out hg4
      have HH4:Hid (w.heap.size+1≤w4.heap.size):=Nat.le_trans hbz3 hg4.size
      clear ho4 hg4 hbz3 hbz
      go_wp2
      go_roundw
      case rel=>exact⟨k+1,by omega,by go_num,HO4,HGD3,HE4,HH4⟩
      case measure=>simp[intOf];omega
     ·have d3:(z==3)=false:=by simp[hz3]
      by_cases hz14:z=1∨z=4
      ·have HSN2:Hid (mapF T (zs.take (k+1))=mapF T (zs.take k)++[c]):=by unfold Hid;rw[HSN.out,map1_self (by rw[hz.out];exact hz14)]
       rcases hz14 with e1|e1
       ·have d1:(z==1)=true:=by rw[e1];decide
        have HA2:=Lib.hid (HE2.out.step ((Below.refl w2.heap.size w2).alloc (Nat.le_refl _) (.cells #[.int .i64 c] 3)))
        have HO3:=Lib.hid (World.ownsRow.alloc HO2.out (.cells #[.int .i64 c] 3))
        have hsa:w.heap.size+1≤(w2.alloc (.cells #[.int .i64 c] 3)).heap.size:=by simp;omega
        clear e1 hz0 hz3
        go_wp2_with (at_builtin;(refine wpList_append_ints (.tmp 34) (.tmp 36) rfl rfl (w.heap.size+1) u8 (mapF T (zs.take k)) rfl HO3.out (some ⟨w2.heap.size,0,none⟩) 1 1 [c] rfl rfl (map_one w2 c) (by have:=HML.out;simp;omega) hsa ?_);intro v4 w4 ho4 hg4)
        have HO4:Hid (Ints w4 (w.heap.size+1) v4 (mapF T (zs.take (k+1)))):=by unfold Hid;rw[HSN2.out];exact ho4
        have HE4:Hid (Env w x T w4):=HA2.out.app HX.out HO3.out hg4
        have HH4:Hid (w.heap.size+1≤w4.heap.size):=Nat.le_trans hsa hg4.size
        clear ho4 hg4 hsa hbz
        go_wp2
        go_roundw
        case rel=>exact⟨k+1,by omega,by go_num,HO4,HGD3,HE4,HH4⟩
        case measure=>simp[intOf];omega
       ·have d1:(z==1)=false:=by rw[e1];decide
        have d4:(z==4)=true:=by rw[e1];decide
        have HA2:=Lib.hid (HE2.out.step ((Below.refl w2.heap.size w2).alloc (Nat.le_refl _) (.cells #[.int .i64 c] 3)))
        have HO3:=Lib.hid (World.ownsRow.alloc HO2.out (.cells #[.int .i64 c] 3))
        have hsa:w.heap.size+1≤(w2.alloc (.cells #[.int .i64 c] 3)).heap.size:=by simp;omega
        clear e1 hz0 hz3
        go_wp2_with (at_builtin;(refine wpList_append_ints (.tmp 34) (.tmp 36) rfl rfl (w.heap.size+1) u8 (mapF T (zs.take k)) rfl HO3.out (some ⟨w2.heap.size,0,none⟩) 1 1 [c] rfl rfl (map_one w2 c) (by have:=HML.out;simp;omega) hsa ?_);intro v4 w4 ho4 hg4)
        have HO4:Hid (Ints w4 (w.heap.size+1) v4 (mapF T (zs.take (k+1)))):=by unfold Hid;rw[HSN2.out];exact ho4
        have HE4:Hid (Env w x T w4):=HA2.out.app HX.out HO3.out hg4
        have HH4:Hid (w.heap.size+1≤w4.heap.size):=Nat.le_trans hsa hg4.size
        clear ho4 hg4 hsa hbz
        go_wp2
        go_roundw
        case rel=>exact⟨k+1,by omega,by go_num,HO4,HGD3,HE4,HH4⟩
        case measure=>simp[intOf];omega
      ·have d1:(z==1)=false:=by simp;omega
       have d4:(z==4)=false:=by simp;omega
       have d2:(z==2)=true:=by have:=HSR.out;simp;omega
       have HSN2:Hid (mapF T (zs.take (k+1))=mapF T (zs.take k)):=by unfold Hid;rw[HSN.out,map1_none (by rw[hz.out];exact hz3) (by rw[hz.out];exact hz14),List.append_nil]
       have HO4:Hid (Ints w2 (w.heap.size+1) u8 (mapF T (zs.take (k+1)))):=by unfold Hid;rw[HSN2.out];exact HO2.out
       have HH4:Hid (w.heap.size+1≤w2.heap.size):=hbz
       clear hz0 hz3 hz14 hbz
       go_wp2
       go_roundw
       case rel=>exact⟨k+1,by omega,by go_num,HO4,HGD3,HE2,HH4⟩
       case measure=>simp[intOf];omega
   ·obtain rfl:k=n:=by omega
    have hown2:=hown.out
    rw[List.take_of_length_le (Nat.le_of_eq HN.out)]at hown2
    obtain⟨pu,cu,hu,hiu⟩:=hown2.inn
    have HO5:=Lib.hid (ownsRow_mono hown2 (show w.heap.size≤w.heap.size+1 by omega))
    have HML:Hid ((mapF T zs).length≤18*4096):=by
     have:=mapF_lenT HV.out HSC.out zs.length
     rw[List.take_of_length_le (Nat.le_refl _)]at this
     have:=HN.out
     unfold Hid;omega
    have HEND:=Lib.hid (mapR_end hA.out (badK_all (fun j hj=>hgd.out j (by rw[←HN.out];exact hj))))
    obtain⟨nn,hnn⟩:∃nn,(mapF T zs).length=nn:=⟨_,rfl⟩
    rw[hnn]at hu HEND HML
    subst hu
    have hml:=HML.out
    clear hown2 hiu hown hgd
    by_cases hbig:4096<nn
    ·have d1:decide ((4096:Int)<(nn:Int))=true:=decide_eq_true (by omega)
     have HR2:Hid (L=[]∧K=0∧E=7):=by
      have:=hR.out
      rw[HEND.out,if_pos hbig]at this
      injection this with e1 e2
      injection e2 with e2 e3
      exact⟨e1.symm,e2.symm,e3.symm⟩
     obtain⟨e1,e2,e3⟩:=HR2.out
     subst e1;subst e2;subst e3
     go_wp2
     go_ret3
     exact⟨_,rfl,Ints.nil _ _,he.out.bel⟩
    ·have d1:decide ((4096:Int)<(nn:Int))=false:=decide_eq_false (by omega)
     have HR2:Hid (L=mapF T zs∧K=0∧E=0):=by
      have:=hR.out
      rw[HEND.out,if_neg hbig]at this
      injection this with e1 e2
      injection e2 with e2 e3
      exact⟨e1.symm,e2.symm,e3.symm⟩
     obtain⟨e1,e2,e3⟩:=HR2.out
     subst e1;subst e2;subst e3
     go_wp2
     go_ret3
     rw[←hnn]at HO5
     exact⟨_,rfl,by rw[←hnn];exact HO5.out,he.out.bel⟩
 ·have d0:(A !=0)=true:=by simp[h0]
  have HR2:Hid (L=[]∧K=0∧E=A):=by
   have:=hR.out
   rw[mapR_acc (by rw[hA.out];exact h0),hA.out]at this
   injection this with e1 e2
   injection e2 with e2 e3
   exact⟨e1.symm,e2.symm,e3.symm⟩
  obtain⟨e1,e2,e3⟩:=HR2.out
  subst e1;subst e2;subst e3
  clear h0
  go_wp2
  go_ret3
  exact⟨_,rfl,Ints.nil _ _,HE.out.bel⟩
end Go.Proofs.YtblcoicaeeiojaaGreatDoor
