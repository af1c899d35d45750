/- idna: contracts of the program's functions (genIA.py). The l -/
import Derived.Test.YtblcoicaeeiojaaGreatDoorSSiPmIdnFix
import Derived.Test.YtblcoicaeeiojaaGreatDoorSSiPmValA
import Derived.Test.YtblcoicaeeiojaaGreatDoorSSiPmBidB
import Derived.Test.YtblcoicaeeiojaaGreatDoorSSiPmDcmC
import Derived.Test.YtblcoicaeeiojaaGreatDoorSSiCmpC
import Derived.Test.YtblcoicaeeiojaaGreatDoorSSiPmUtfE
import Derived.Test.YtblcoicaeeiojaaGreatDoorSSiPmSplPA
import Derived.Test.YtblcoicaeeiojaaGreatDoorSSiPmUtfD
import Derived.Test.YtblcoicaeeiojaaGreatDoorSSiPmOrdEnv
set_option linter.unusedSimpArgs false
set_option linter.unusedVariables false
namespace Go.Proofs.YtblcoicaeeiojaaGreatDoor
open Go.RowKit
theorem decS_U (L:List UInt8):decodeS L=((decU L).1,((decU L).2.1:Int),(decU L).2.2):=by
 unfold decodeS decU
 repeat' split
 all_goals rfl
theorem ptsS_len (s:List Int):(ptsS s).1.length≤2048:=by
 unfold ptsS
 repeat' split
 ·simp
 ·simp
 ·simp
 ·simp only;omega
 ·unfold ptsX
  split
  ·simp
  ·split
   ·simp
   ·obtain⟨X,e,h⟩:∃X e,decP (lowS (s.drop 4))=(X,e):=⟨_,_,rfl⟩
    rw[h]
    exact(decP_out h).1
theorem labP_len (x:List Int) (h:x.length≤4096):(labP x).1.length≤4096:=by
 unfold labP
 split
 ·have:=ptsS_len x;omega
 ·exact h
theorem LsNew.put {w:World} {B g cap i:Nat} {v:Value} {L:List (List Int)} {x:List Int} (h:LsNew w B g cap L) (hi:i<L.length) (hl:Lab w B v x) (hv:labBlk v≠some g):LsNew (w.setCell ⟨g,i,none⟩ v) B g cap (L.set i x):=by
 have hg:w.grownBy (w.setCell ⟨g,i,none⟩ v) (some g):=⟨rfl,rfl,rfl,by simp[World.setCell],fun k _ hk=>Below.heap_setCell _ _ _ _ (fun e=>hk (by simp[e]))⟩
 refine⟨fun k hk=>?_,fun k hk=>?_,h.lo,Nat.lt_of_lt_of_le h.hi hg.size,by simpa using h.room,h.most⟩
 ·by_cases e:k=i
  ·subst e
   rw[sgetD_set_eq _ _ _ _ hi]
   obtain⟨u,h1,_⟩:=h.hd k hi
   exact⟨v,World.cell?_setCell_same _ _ _ h1,hl.kept hg (fun b hb e2=>by cases e2;exact hv hb),hv⟩
  ·rw[sgetD_set_ne _ _ _ _ _ (fun e2=>e e2.symm)]
   obtain⟨u,h1,h2,h3⟩:=h.hd k (by simpa using hk)
   exact⟨u,(World.cell?_setCell_other _ _ _ _ (by intro e2;cases e2;exact e rfl)).trans h1,h2.kept hg (fun b hb e2=>by cases e2;exact h3 hb),h3⟩
 ·exact(World.frozen?_setCell _ _ _ _).trans (h.soft k (by simpa using hk))
theorem LsNew.uni {w w' : World} {B g cap k c c2 : Nat} {q q2 : Option Addr} {L : List (List Int)} {l y : List Int} (h : LsNew w B g cap L) (hk : k < L.length) (hl : L.getD k [] = l) (hc : w.cell? ⟨g, k, none⟩ = some (.slice q l.length c)) (hb : Below w.heap.size w w') (hor : (q2 = q ∧ c2 = c ∧ y = l) ∨ Ints w' w.heap.size (.slice q2 y.length c2) y) :
  LsNew (w'.setCell ⟨g,k,none⟩ (.slice q2 y.length c2)) B g cap (L.set k y):=by
 have key:Lab w' B (.slice q2 y.length c2) y∧labBlk (.slice q2 y.length c2)≠some g:=by
  rcases hor with⟨rfl,rfl,rfl⟩|ho
  ·obtain⟨v,h1,h2,h3⟩:=h.hd k hk
   rw[hl]at h2
   rw[hc]at h1
   cases h1
   exact⟨h2.kept (below_grownBy hb none) (fun b _ e=>by cases e),h3⟩
  ·have h0:=Lab.ofInts ho
   refine⟨h0.1.mono (Nat.le_trans h.lo (Nat.le_of_lt h.hi)),fun e=>?_⟩
   have h1:=(h0.1.lt e).1
   have h2:=h.hi
   omega
 exact(h.below hb).put hk key.1 key.2
def UniPost (p:Option Addr) (cap:Nat) (l y:List Int) (E:Int) (w:World) (e:Ending) (w':World):Prop :=
 ∃q c,e = .returned (.tuple #[.slice q y.length c,.int .i64 E])∧IntsIn w' q y∧y.length≤c∧Below w.heap.size w w'∧((q=p∧c=cap∧y=l)∨Ints w' w.heap.size (.slice q y.length c) y)
theorem UniPost.nil (p:Option Addr) (cap:Nat) (l:List Int) (E:Int) {w w':World} (h:Below w.heap.size w w'):UniPost p cap l [] E w (.returned (.tuple #[.slice none 0 0,.int .i64 E])) w' :=
 ⟨none,0,rfl,fun k hk=>absurd hk (Nat.not_lt_zero _),Nat.le_refl _,h,.inr (Ints.nil _ _)⟩
def PrcPost (L:List (List Int)) (K:Nat) (E:Int) (w:World) (e:Ending) (w':World):Prop :=
 ∃p n c,e = .returned (.tuple #[.slice p n c,.int .i64 K,.int .i64 E])∧LsIn w' p L∧L.length=n∧n≤c∧n≤4097∧Below w.heap.size w w'
theorem PrcPost.nil (K:Nat) (E:Int) {w w':World} (h:Below w.heap.size w w'):PrcPost [] K E w (.returned (.tuple #[.slice none 0 0,.int .i64 K,.int .i64 E])) w' :=
 ⟨none,0,0,rfl,LsIn.nil _ _,rfl,Nat.le_refl _,by omega,h⟩
set_option maxRecDepth 100000 in
set_option maxHeartbeats 4000000 in
theorem decoded_at (p : Option Addr) (n cap : Nat) (l y : List Int) (E : Int) (w : World) (hin : IntsIn w p l) (HN : Hid (l.length = n)) (hcap : n ≤ cap) (hl : n ≤ 4096) (hY : Hid (labP l = (y, E))) :
  Calls Tryz.prog 106 #[.slice p n cap] w (UniPost p cap l y E w):=by
 obtain⟨B,hB⟩:∃B,Hid (ascQ l=B):=⟨_,rfl⟩
 have HI:=Lib.hid hin
 clear hin
 go_enter Tryz.func106,Tryz.ntmps106
 go_wp2_with fail
 refine(ascii_at p n cap l B _ HI.out HN (by omega) hB).mono ?_
 rintro e w1 ⟨rfl,rfl⟩
 cases B with
 | false =>
  have hy:=hY.out
  unfold labP at hy
  rw[if_neg (fun h=>by rw[hB.out]at h;cases h.1)]at hy
  injection hy with e1 e2
  subst e1
  subst e2
  clear hB hY
  go_wp2
  go_ret2
  refine⟨p,cap,by rw[HN.out];rfl,HI.out,by rw[HN.out];exact hcap,Below.refl _ _,.inl ⟨rfl,rfl,rfl⟩⟩
 | true =>
  obtain⟨U,hU⟩:∃U,strOfNums l=U:=⟨_,rfl⟩
  have HEN:Hid (encodeS l=(U,0)):=by unfold Hid;rw[←hU];exact enc_asc hB.out (by rw[HN.out];exact hl)
  have HNU:Hid (nums U=l):=by unfold Hid;rw[←hU];exact nums_of _ fun c hc=>by have:=ascQ_mem hB.out c hc;omega
  have hsz:U.size≤4096:=by rw[←hU,strOfNums_size,HN.out];exact hl
  obtain⟨X,hX⟩:∃X,Hid (isX (nums U)=X):=⟨_,rfl⟩
  have HYX:Hid ((if X=true then ptsS (nums U) else(l,0))=(y,E)):=by
   have hx2:isX l=X:=by rw[←hX.out,HNU.out]
   have:=hY.out
   unfold labP at this
   rw[hB.out,hx2]at this
   unfold Hid
   rw[HNU.out,←this]
   cases X<;>simp
  clear hU hB hY
  go_wp2_with fail
  refine(encode_at p cap n l U 0 _ HI.out (by rw[HN.out];unfold maxLen;omega) HN.out HEN).mono ?_
  rintro e w2 ⟨rfl,hb⟩
  have HB2:=Lib.hid hb
  clear hb
  go_wp2_with fail
  refine(is_at U X _ (by omega) hX).mono ?_
  rintro e w3 ⟨rfl,hb⟩
  replace HB2:=Lib.hid (HB2.out.trans (hb.mono HB2.out.size))
  clear hb
  cases X with
  | false =>
   have hy:=HYX.out
   rw[if_neg (by simp)]at hy
   injection hy with e1 e2
   subst e1
   subst e2
   clear hX HYX
   go_wp2
   go_ret2
   refine⟨p,cap,by rw[HN.out];rfl,HI.out.below HB2.out,by rw[HN.out];exact hcap,HB2.out,.inl ⟨rfl,rfl,rfl⟩⟩
  | true =>
   have HD:Hid (ptsS (nums U)=(y,E)):=by have:=HYX.out;rwa[if_pos rfl]at this
   clear hX HYX
   go_wp2_with fail
   refine(adecode_at U y E _ (by omega) HD).mono ?_
   rintro e w4 ⟨v4,rfl,hi4,hb⟩
   obtain⟨p4,c4,rfl,hin4,hc4⟩:=ints_capA hi4
   have HI4:=Lib.hid (ownsRow_mono hi4 HB2.out.size)
   have HJ4:=Lib.hid hin4
   replace HB2:=Lib.hid (HB2.out.trans (hb.mono HB2.out.size))
   clear hi4 hin4 hb
   obtain⟨m,hm⟩:∃m,y.length=m:=⟨_,rfl⟩
   rw[hm]at HI4 hc4 ⊢
   have HM:=Lib.hid hm
   clear hm
   go_wp2
   go_ret2
   refine⟨p4,c4,by rw[HM.out];rfl,HJ4.out,by rw[HM.out];exact hc4,HB2.out,.inr ?_⟩
   unfold Ints
   rw[HM.out]
   exact HI4.out
set_option maxRecDepth 100000 in
set_option maxHeartbeats 4000000 in
theorem unif_at (x : TV) (T : Tb) (p : Option Addr) (n cap : Nat) (l y : List Int) (E : Int) (w : World) (hx : TabV w x T) (hr : Rsv w) (hin : IntsIn w p l) (HN : Hid (l.length = n)) (hcap : n ≤ cap) (hl : n ≤ 4096) (hY : Hid (lab1 T l = (y, E))) :
  Calls Tryz.prog 68 #[x.agg,.slice p n cap] w (UniPost p cap l y E w):=by
 obtain⟨z,F,hF⟩:∃z F,Hid (labP l=(z,F)):=⟨_,_,rfl⟩
 obtain⟨V,hV⟩:∃V,Hid (valR T z=V):=⟨_,rfl⟩
 have HY:Hid ((if F≠0 then([],F)else if V≠0 then([],V) else(z,0))=(y,E)):=by
  unfold Hid;rw[←hY.out];unfold lab1;rw[hF.out,hV.out]
 have hz:z.length≤4096:=by have:=labP_len l (by rw[HN.out];exact hl);rwa[hF.out]at this
 have HE:=Lib.hid (Env.new hx)
 have HI:=Lib.hid hin
 have HR:=Lib.hid hr
 clear hx hin hr hY
 simp only[TV.agg]
 go_enter Tryz.func68,Tryz.ntmps68
 go_wp2_with fail
 refine(decoded_at p n cap l z F _ (HI.out.below HE.out.bel) HN hcap hl hF).mono ?_
 rintro e w1 ⟨q,c,rfl,hiq,hcq,hb,hor⟩
 have hvc:=fun W (h1:TabV W x T) h2 h3=>vchk_at x T q c z V W h1 h2 h3 (by omega) hV
 have HOR:Hid ((q=p∧c=cap∧z=l)∨Ints w1 w.heap.size (.slice q z.length c) z):=by
  rcases hor with h|h
  ·exact .inl h
  ·exact .inr (ownsRow_mono h HE.out.bel.size)
 replace HE:=Lib.hid (HE.out.step hb)
 obtain⟨m,hm⟩:∃m,z.length=m:=⟨_,rfl⟩
 rw[hm]at hvc hcq HOR hz ⊢
 have HM:=Lib.hid hm
 have HVC:=Lib.hid hvc
 have HQ:=Lib.hid hiq
 clear hb hor hiq hvc hm
 by_cases h0:F=0
 ·subst h0
  have d0:((0:Int) !=0)=false:=rfl
  replace HY:=HY.out
  rw[if_neg (by simp)]at HY
  replace HY:=Lib.hid HY
  obtain⟨⟨k0,k1,k2,k3,k4,k5⟩,⟨k6,k7,k8,k9,k10,k11⟩⟩:=HE.out.box.load
  go_wp2_with fail
  refine(HVC.out _ HE.out.tab (HR.out.below HE.out.bel) (HQ.out)).mono ?_
  rintro e w2 ⟨rfl,hb⟩
  replace HE:=Lib.hid (HE.out.step hb)
  replace HQ:=Lib.hid (HQ.out.below hb)
  have HOR2:Hid ((q=p∧c=cap∧z=l)∨Ints w2 w.heap.size (.slice q m c) z):=by
   rcases HOR.out with h|h
   ·exact .inl h
   ·exact .inr (h.below hb)
  clear HOR
  clear hb
  clear k0 k1 k2 k3 k4 k5 k6 k7 k8 k9 k10 k11
  by_cases h1:V=0
  ·subst h1
   have hy:=HY.out
   rw[if_neg (by simp)]at hy
   injection hy with e1 e2
   subst e1
   subst e2
   clear HY
   go_wp2
   go_ret2
   exact⟨q,c,by rw[HM.out];rfl,HQ.out,by rw[HM.out];exact hcq,HE.out.bel,by rw[HM.out];exact HOR2.out⟩
  ·have d1:(V !=0)=true:=by simp[h1]
   have hy:=HY.out
   rw[if_pos h1]at hy
   injection hy with e1 e2
   subst e1
   subst e2
   clear HY h1 HOR2
   go_wp2
   go_ret2
   exact UniPost.nil _ _ _ _ HE.out.bel
 ·have d0:(F !=0)=true:=by simp[h0]
  have hy:=HY.out
  rw[if_pos h0]at hy
  injection hy with e1 e2
  subst e1
  subst e2
  clear HY h0 HOR
  go_wp2
  go_ret2
  exact UniPost.nil _ _ _ _ HE.out.bel
set_option maxRecDepth 100000 in
set_option maxHeartbeats 4000000 in
theorem nrm_at (x : TV) (T : Tb) (s : ByteArray) (L : List Int) (K : Nat) (E : Int) (w : World) (hx : TabV w x T) (hr : Rsv w) (hs : s.size ≤ 140737488355328) (hR : Hid (nrmR T s.data.toList = (L, K, E))) :
  Calls Tryz.prog 66 #[x.agg,.string s] w (MapRet L K E w):=by
 obtain⟨C,hC⟩:∃C,Hid (checkT T=C):=⟨_,rfl⟩
 obtain⟨D,K0,E0,hD⟩:∃D K0 E0,Hid (decU s.data.toList=(D,K0,E0)):=⟨_,_,_,rfl⟩
 obtain⟨M,K1,E1,hM⟩:∃M K1 E1,Hid (mapR T D=(M,K1,E1)):=⟨_,_,_,rfl⟩
 obtain⟨E2,hE2⟩:∃E2,Hid (nfdE T M=E2):=⟨_,rfl⟩
 obtain⟨N,hN⟩:∃N,Hid (nfcL T M=N):=⟨_,rfl⟩
 have HY:Hid ((if C≠0 then([],0,2)else if s.data.toList=[] then([],0,10)else if E0≠0 then([],K0,E0)else if E1≠0 then([],K1,E1) else(N,0,E2))=(L,K,E)):=by
  unfold Hid;rw[←hR.out];unfold nrmR;rw[hC.out,hD.out];simp only;rw[hM.out];simp only;rw[hE2.out,hN.out]
 have hdl:D.length≤4096:=by have:=decU_len s.data.toList;rwa[hD.out]at this
 have hml:M.length≤4096:=by have:=mapR_len T D;rwa[hM.out]at this
 have HE:=Lib.hid (Env.new hx)
 have HR:=Lib.hid hr
 have HDS:Hid (decodeS s.data.toList=(D,(K0:Int),E0)):=by unfold Hid;rw[decS_U,hD.out]
 clear hx hr hR hD
 simp only[TV.agg]
 go_enter Tryz.func66,Tryz.ntmps66
 obtain⟨⟨k0,k1,k2,k3,k4,k5⟩,⟨k6,k7,k8,k9,k10,k11⟩⟩:=HE.out.box.load
 go_wp2_with fail
 refine(check_tab_at x T C _ HE.out.tab (HR.out.below HE.out.bel) hC).mono ?_
 rintro e w1 ⟨rfl,hb⟩
 replace HE:=Lib.hid (HE.out.step hb)
 clear hb
 clear k0 k1 k2 k3 k4 k5 k6 k7 k8 k9 k10 k11
 by_cases h0:C=0
 ·have d0:(C !=0)=false:=by simp[h0]
  replace HY:=HY.out
  rw[if_neg (by omega)]at HY
  replace HY:=Lib.hid HY
  clear hC h0
  by_cases h1:s.size=0
  ·have hnil:s.data.toList=[]:=List.eq_nil_of_length_eq_zero h1
   have d1:=size_zero_eqA s h1
   have hy:=HY.out
   rw[if_pos hnil]at hy
   injection hy with e1 e2
   injection e2 with e2 e3
   subst e1
   subst e2
   subst e3
   clear HY hnil h1
   go_wp2
   go_ret3
   exact⟨_,rfl,Ints.nil _ _,HE.out.bel⟩
  ·have hnil:s.data.toList≠[]:=fun h=>h1 (by have:s.data.toList.length=0:=(by rw[h];rfl);exact this)
   have d1:=size_pos_neA s h1
   replace HY:=HY.out
   rw[if_neg hnil]at HY
   replace HY:=Lib.hid HY
   clear hnil h1
   go_wp2_with fail
   refine(decode_any s _ (by unfold maxLen;omega)).mono ?_
   rintro e w2 ⟨v2,rfl,hi2,hb⟩
   rw[HDS.out]at hi2 ⊢
   replace HE:=Lib.hid (HE.out.step hb)
   obtain⟨p2,c2,rfl,hin2,hc2⟩:=ints_capA hi2
   have HI2:Hid (IntsIn w2 p2 D):=hin2
   have hmp:=fun W (h1:TabV W x T) h2 h3=>map_at x T p2 c2 D M K1 E1 W h1 h2 h3 (by omega) hM
   simp only at hmp ⊢
   clear hi2 hin2 hb hc2
   by_cases h2:E0=0
   ·subst h2
    replace HY:=HY.out
    rw[if_neg (by simp)]at HY
    replace HY:=Lib.hid HY
    obtain⟨n2,hn2⟩:∃n,D.length=n:=⟨_,rfl⟩
    rw[hn2]at hmp ⊢
    have HMP:=Lib.hid hmp
    clear hn2 hmp
    obtain⟨⟨k0,k1,k2,k3,k4,k5⟩,⟨k6,k7,k8,k9,k10,k11⟩⟩:=HE.out.box.load
    go_wp2_with fail
    refine(HMP.out _ HE.out.tab (HR.out.below HE.out.bel) HI2.out).mono ?_
    rintro e w3 ⟨v3,rfl,hi3,hb⟩
    replace HE:=Lib.hid (HE.out.step hb)
    clear hb
    clear k0 k1 k2 k3 k4 k5 k6 k7 k8 k9 k10 k11
    obtain⟨p3,c3,rfl,hin3,hc3⟩:=ints_capA hi3
    have HI3:=Lib.hid hin3
    have hnf:=fun W (h1:TabV W x T) h2 h3=>nfc_at x T p3 c3 M E2 N W h1 h2 h3 (by omega) hE2 hN
    clear hi3 hin3 hc3 HMP HI2
    by_cases h3:E1=0
    ·subst h3
     replace HY:=HY.out
     rw[if_neg (by simp)]at HY
     injection HY with e1 e2
     injection e2 with e2 e3
     subst e1
     subst e2
     subst e3
     obtain⟨n3,hn3⟩:∃n,M.length=n:=⟨_,rfl⟩
     rw[hn3]at hnf ⊢
     have HNF:=Lib.hid hnf
     clear hn3 hnf
     obtain⟨⟨k0,k1,k2,k3,k4,k5⟩,⟨k6,k7,k8,k9,k10,k11⟩⟩:=HE.out.box.load
     go_wp2_with fail
     refine(HNF.out _ HE.out.tab (HR.out.below HE.out.bel) HI3.out).mono ?_
     rintro e w4 ⟨v4,rfl,hi4,hb⟩
     have HI4:=Lib.hid (ownsRow_mono hi4 HE.out.bel.size)
     replace HE:=Lib.hid (HE.out.step hb)
     clear hb hi4
     clear k0 k1 k2 k3 k4 k5 k6 k7 k8 k9 k10 k11
     go_wp2
     go_ret3
     exact⟨_,rfl,HI4.out,HE.out.bel⟩
    ·have d3:(E1 !=0)=true:=by simp[h3]
     clear hnf
     have hy:=HY.out
     rw[if_pos h3]at hy
     injection hy with e1 e2
     injection e2 with e2 e3
     subst e1
     subst e2
     subst e3
     clear HY h3
     go_wp2
     go_ret3
     exact⟨_,rfl,Ints.nil _ _,HE.out.bel⟩
   ·have d2:(E0 !=0)=true:=by simp[h2]
    clear hmp
    have hy:=HY.out
    rw[if_pos h2]at hy
    injection hy with e1 e2
    injection e2 with e2 e3
    subst e1
    subst e2
    subst e3
    clear HY h2
    go_wp2
    go_ret3
    exact⟨_,rfl,Ints.nil _ _,HE.out.bel⟩
 ·have d0:(C !=0)=true:=by simp[h0]
  have hy:=HY.out
  rw[if_pos h0]at hy
  injection hy with e1 e2
  injection e2 with e2 e3
  subst e1
  subst e2
  subst e3
  clear HY hC h0
  go_wp2
  go_ret3
  exact⟨_,rfl,Ints.nil _ _,HE.out.bel⟩
set_option maxRecDepth 100000 in
set_option maxHeartbeats 4000000 in
theorem iproc_at (x : TV) (T : Tb) (s : ByteArray) (L : List (List Int)) (K : Nat) (E : Int) (w : World) (hx : TabV w x T) (hr : Rsv w) (hs : s.size ≤ 140737488355328) (hR : Hid (procR T s.data.toList = (L, K, E))) :
  Calls Tryz.prog 39 #[x.agg,.string s] w (PrcPost L K E w):=by
 obtain⟨m,K0,E0,hM⟩:∃m K0 E0,Hid (nrmR T s.data.toList=(m,K0,E0)):=⟨_,_,_,rfl⟩
 have HY:Hid ((if E0≠0 then([],K0,E0)else procL T m)=(L,K,E)):=by unfold Hid;rw[←hR.out,procR_nrm,hM.out]
 have hml:m.length≤4096:=by have:=nrmR_len (T:=T) (s:=s.data.toList);rwa[hM.out]at this
 have HXX:=Lib.hid hx
 have HE:=Lib.hid (Env.new hx)
 have HR:=Lib.hid hr
 clear hx hr hR
 simp only[TV.agg]
 go_enter Tryz.func39,Tryz.ntmps39
 obtain⟨⟨k0,k1,k2,k3,k4,k5⟩,⟨k6,k7,k8,k9,k10,k11⟩⟩:=HE.out.box.load
 go_wp2_with fail
 refine(nrm_at x T s m K0 E0 _ HE.out.tab (HR.out.below HE.out.bel) hs hM).mono ?_
 rintro e w1 ⟨v1,rfl,hi1,hb⟩
 replace HE:=Lib.hid (HE.out.step hb)
 clear hb
 clear k0 k1 k2 k3 k4 k5 k6 k7 k8 k9 k10 k11
 obtain⟨p1,c1,rfl,hin1,hc1⟩:=ints_capA hi1
 have HI1:=Lib.hid hin1
 clear hi1 hin1
 by_cases h0:E0=0
 ·subst h0
  replace HY:=HY.out
  rw[if_neg (by simp)]at HY
  replace HY:=Lib.hid HY
  obtain⟨n1,hn1⟩:∃n,m.length=n:=⟨_,rfl⟩
  rw[hn1]at hc1 hml ⊢
  have HN1:=Lib.hid hn1
  clear hn1 hM
  go_wp2_with fail
  refine(labels_at p1 n1 c1 m _ HI1.out HN1 hc1 (by omega)).mono ?_
  rintro e w2 ⟨g,c2,rfl,hls,hb⟩
  have HGB:Hid (w.heap.size<g):=by have h1:=hls.lo;have h2:=World.block_lt_of_cell? _ _ HE.out.box.load.1.1;simp only at h2;unfold Hid;omega
  have HLS:=Lib.hid (hls.mono HE.out.bel.size)
  replace HE:=Lib.hid (HE.out.step hb)
  have HLN:Hid (∀z∈cutD m,z.length≤4096):=fun z hz=>by have:=cutD_lab m z hz;have:=HN1.out;omega
  have hX5:(cutD m).length≤4097:=by have:=cutD_num m;have:=HN1.out;omega
  have hX1:1≤(cutD m).length:=List.length_pos_iff.2 (cutD_ne m)
  obtain⟨X,hX⟩:∃X,cutD m=X:=⟨_,rfl⟩
  rw[hX]at HLS HLN hX5 hX1
  have HX:=Lib.hid hX
  obtain⟨n,hn⟩:∃n,X.length=n:=⟨_,rfl⟩
  rw[hX,hn]
  rw[hn]at hX5 hX1
  have HN:=Lib.hid hn
  have hgc:=HLS.out.room
  rw[hn]at hgc
  have HGL:Hid (g<w2.heap.size):=HLS.out.hi
  clear hls hb hX hn HI1
  have HX0:=HXX
  go_wp2
  go_loopw [30] (fun i wr=>∃k:Nat,k≤n∧i = .int .i64 k∧Hid (∀j,j<k→(lab1 T (X.getD j [])).2=0)∧Hid (LsNew wr w.heap.size g c2 (midU T X k))∧Hid (Env w x T wr)) (fun i _=>n-(intOf i).toNat)
  case atStart=>exact⟨0,Nat.zero_le _,rfl,fun j hj=>by omega,by unfold Hid;rw[midU_zero];exact HLS.out,HE⟩
  case round =>
   clear HLS HE
   obtain⟨k,hk,rfl,hgd,hls,he⟩:=hrel
   have HML:Hid ((midU T X k).length=n):=by unfold Hid;rw[midU_len,HN.out]
   by_cases hlt:k<n
   ·have hkl:k<X.length:=by rw[HN.out];exact hlt
    have hkm:k<(midU T X k).length:=by rw[HML.out];exact hlt
    obtain⟨v,hck,⟨q,c,rfl,hqc,hiq,_⟩,_⟩:=hls.out.hd k hkm
    have hfz:=hls.out.soft k hkm
    rw[midU_at T X k hkl]at hck hqc hiq
    obtain⟨l,hl⟩:∃l,X.getD k []=l:=⟨_,rfl⟩
    have hll:l.length≤4096:=HLN.out l (by rw[←hl];simp[List.getD,hkl])
    rw[hl]at hck hqc hiq
    have HL:=Lib.hid hl
    have HKM:=Lib.hid hkm
    have HKL:=Lib.hid hkl
    have HCK:=Lib.hid hck
    have HIQ:=Lib.hid hiq
    have HFZ:=Lib.hid hfz
    obtain⟨y,E1,hY⟩:∃y E1,Hid (lab1 T l=(y,E1)):=⟨_,_,rfl⟩
    obtain⟨nl,hnl⟩:∃n,l.length=n:=⟨_,rfl⟩
    rw[hnl]at hck hqc hll
    have HNL:=Lib.hid hnl
    have hgw:g<wr.heap.size:=hls.out.hi
    have HGW:=Lib.hid hgw
    clear hl hkl hkm hiq hfz hnl hgw
    obtain⟨⟨k0,k1,k2,k3,k4,k5⟩,⟨k6,k7,k8,k9,k10,k11⟩⟩:=he.out.box.load
    go_wp2_with fail
    refine(unif_at x T q nl c l y E1 _ he.out.tab (HR.out.below he.out.bel) HIQ.out HNL hqc hll hY).mono ?_
    rintro e w3 ⟨q3,c3,rfl,hi3,hc3,hb,hor⟩
    have hput:=hls.out.uni HKM.out (by rw[midU_at T X k HKL.out,HL.out]) HCK.out hb hor
    have hcell:w3.cell? ⟨g,k,none⟩=some (.slice q nl c):=(hb.cell (p:=⟨g,k,none⟩) HGW.out).trans (by rw[HCK.out,HNL.out])
    have hfro:w3.frozen? ⟨g,k,none⟩=false:=(World.frozen?_of_block (hb.block g HGW.out)).trans HFZ.out
    have HE3:Hid (Env w x T (w3.setCell ⟨g,k,none⟩ (.slice q3 y.length c3))):=(he.out.step hb).setu HX0.out HGB.out
    have HPUT:Hid (LsNew (w3.setCell ⟨g,k,none⟩ (.slice q3 y.length c3)) w.heap.size g c2 ((midU T X k).set k y)):=hput
    obtain⟨ny,hny⟩:∃n,y.length=n:=⟨_,rfl⟩
    rw[hny]at HE3 HPUT hc3 ⊢
    clear hi3 hb hor hput hls he hck hny
    clear k0 k1 k2 k3 k4 k5 k6 k7 k8 k9 k10 k11
    by_cases h1:E1=0
    ·subst h1
     have e0:((0:Int) !=0)=false:=rfl
     have HM2:Hid (LsNew (w3.setCell ⟨g,k,none⟩ (.slice q3 ny c3)) w.heap.size g c2 (midU T X (k+1))):=by
      have:=HPUT.out
      have e:y=(lab1 T (X.getD k [])).1:=by rw[HL.out,hY.out]
      rw[e,midU_set T X k HKL.out]at this
      exact this
     have HG2:Hid (∀j,j<k+1→(lab1 T (X.getD j [])).2=0):=fun j hj=>by
      by_cases e:j=k
      ·rw[e,HL.out,hY.out]
      ·exact hgd.out j (by omega)
     clear HPUT
     go_wp2
     go_roundw
     case rel=>exact⟨k+1,by omega,by go_num,HG2,HM2,HE3⟩
     case measure=>first|(simp[intOf];done)|(simp[intOf];omega)
    ·have e0:(E1 !=0)=true:=by simp[h1]
     have hy:=HY.out
     rw[procL_bad (T:=T) (m:=m) (j:=k) (by rw[HX.out];exact HKL.out) (by rw[HX.out];exact hgd.out) (by rw[HX.out,HL.out,hY.out];exact h1),HX.out,HL.out,hY.out]at hy
     injection hy with e1 e2
     injection e2 with e2 e3
     subst e1
     subst e2
     simp only at e3
     subst e3
     clear HY HPUT h1
     go_wp2
     go_ret3
     exact PrcPost.nil _ _ HE3.out.bel
   ·obtain rfl:k=n:=by omega
    obtain⟨Y,hYY⟩:∃Y,(X.map fun x=>(lab1 T x).1)=Y:=⟨_,rfl⟩
    obtain⟨K1,E1,hD⟩:∃K1 E1,Hid (domR T Y=(K1,E1)):=⟨_,_,rfl⟩
    have hp:=procL_done (T:=T) (m:=m) (K:=K1) (E:=E1) (by rw[HX.out,HN.out];exact hgd.out) (by rw[HX.out,hYY];exact hD.out)
    rw[HX.out,hYY]at hp
    have HYD:Hid ((if E1≠0 then([],K1.toNat,E1) else(Y,0,0))=(L,K,E)):=by unfold Hid;rw[←hp];exact HY.out
    obtain⟨KN,hKN⟩:∃n:Nat,K1=(n:Int):=⟨K1.toNat,by have:=domR_nat T Y;rw[hD.out]at this;exact this.symm⟩
    subst hKN
    rw[Int.toNat_natCast]at HYD
    have HLY:Hid (LsNew wr w.heap.size g c2 Y):=by
     have:=hls.out
     rw[←HN.out,midU_full,hYY]at this
     exact this
    have HYN:Hid (Y.length=k):=by unfold Hid;rw[←hYY,List.length_map,HN.out]
    have HYL:Hid (∀l∈Y,l.length≤17592186043904):=fun l hl=>by
     rw[←hYY]at hl
     obtain⟨z,hz,rfl⟩:=List.mem_map.1 hl
     have:=mem_getDI (X:=X) (P:=fun x=>(lab1 T x).2=0) (by rw[HN.out];exact hgd.out) z hz
     have:=lab1_acc this
     omega
    clear hp hYY HY hls hgd
    obtain⟨⟨k0,k1,k2,k3,k4,k5⟩,⟨k6,k7,k8,k9,k10,k11⟩⟩:=he.out.box.load
    go_wp2_with fail
    refine(bdom_at x T (some ⟨g,0,none⟩) k c2 Y KN E1 _ he.out.tab (HR.out.below he.out.bel) HLY.out.inn HYN ⟨by omega,by omega⟩ HYL.out hD).mono ?_
    rintro e w3 ⟨rfl,hb⟩
    replace he:=Lib.hid (he.out.step hb)
    replace HLY:=Lib.hid (HLY.out.below hb)
    clear hb
    clear k0 k1 k2 k3 k4 k5 k6 k7 k8 k9 k10 k11
    by_cases h1:E1=0
    ·subst h1
     have e0:((0:Int) !=0)=false:=rfl
     have hy:=HYD.out
     rw[if_neg (by simp)]at hy
     injection hy with e1 e2
     injection e2 with e2 e3
     subst e1
     subst e2
     subst e3
     clear HYD
     go_wp2
     go_ret3
     exact⟨_,_,_,rfl,HLY.out.inn,HYN.out,hgc,by omega,he.out.bel⟩
    ·have e0:(E1 !=0)=true:=by simp[h1]
     have hy:=HYD.out
     rw[if_pos h1]at hy
     injection hy with e1 e2
     injection e2 with e2 e3
     subst e1
     subst e2
     subst e3
     clear HYD h1
     go_wp2
     go_ret3
     exact PrcPost.nil _ _ he.out.bel
 ·have d0:(E0 !=0)=true:=by simp[h0]
  have hy:=HY.out
  rw[if_pos h0]at hy
  injection hy with e1 e2
  injection e2 with e2 e3
  subst e1
  subst e2
  subst e3
  clear HY h0
  go_wp2
  go_ret3
  exact PrcPost.nil _ _ HE.out.bel
set_option maxRecDepth 100000 in
set_option maxHeartbeats 4000000 in
theorem ascn_at (T : Tb) (p : Option Addr) (n cap : Nat) (L : List (List Int)) (X : List Int) (K : Nat) (E : Int) (S : ByteArray) (w : World) (hin : LsIn w p L) (HN : Hid (L.length = n)) (hl : n ≤ 4097) (hv : Hid (∀ y ∈ L, valR T y = 0)) (hE : Hid (ascL L = (X, K, E))) (hS : Hid (strOfNums X = S)) :
  Calls Tryz.prog 46 #[.slice p n cap] w (Gives (.tuple #[.string S,.int .i64 K,.int .i64 E]) w):=by
 obtain⟨i0,hi,hz0,hz1,hz2⟩:=info_parts Tryz.info9
 have HI:=Lib.hid hin
 obtain⟨M,hM⟩:∃M,(L.map fun y=>strOfNums (labS y).1)=M:=⟨_,rfl⟩
 have HLM:Hid (M.length=n):=by unfold Hid;rw[←hM,List.length_map,HN.out]
 have HM:=Lib.hid hM
 clear hin hM
 go_enter Tryz.func46,Tryz.ntmps46
 go_wp2_with (at_make;refine wpList_make_full _ rfl _ _ 43 rfl w.heap.size 9 i0 (.string ByteArray.empty) 1 Tryz.underlying43 hi hz0 hz1 .i64 .i64 _ _ n rfl rfl rfl rfl (by rw[hz2];omega) (by unfold maxLen;omega) (Nat.le_refl _) ?_;intro w2 hown2 hgrow2)
 have hrow:w2.ownsRow w.heap.size 9 1 (.slice (some ⟨w.heap.size,0,none⟩) n n) n ((padB M 0).map Value.string):=by
  have e:(madeCells (Value.string ByteArray.empty).cells (n*1)).toList=List.replicate (n*1) (.string ByteArray.empty):=toList_madeCells_one _ _
  rw[e]at hown2
  rw[padB_zero,HLM.out]
  simpa using hown2
 have HROW:=Lib.hid hrow
 have HB2:Hid (Below w.heap.size w w2):=(Below.refl _ _).grown hgrow2 (Nat.le_refl _) (by intro j e;cases e)
 clear hown2 hgrow2 hrow
 go_wp2
 go_loopw [17] (fun i wr=>∃k:Nat,k≤n∧i = .int .i64 k∧Hid (∀j,j<k→(labS (L.getD j [])).2=0)∧Hid (wr.ownsRow w.heap.size 9 1 (.slice (some ⟨w.heap.size,0,none⟩) n n) n ((padB M k).map Value.string))∧Hid (Below w.heap.size w wr)) (fun i _=>n-(intOf i).toNat)
 case atStart=>exact⟨0,Nat.zero_le _,rfl,fun j hj=>by omega,HROW,HB2⟩
 case round =>
  clear HROW HB2
  obtain⟨k,hk,rfl,hgd,ho,hbel⟩:=hrel
  by_cases hlt:k<n
  ·have hkl:k<L.length:=by rw[HN.out];exact hlt
   have hkM:k<M.length:=by rw[HLM.out];exact hlt
   obtain⟨b,off,q,c,rfl,hck,hqc,hi0⟩:=(HI.out.below hbel.out) k hkl
   obtain⟨l,hl0⟩:∃l,L.getD k []=l:=⟨_,rfl⟩
   have hvl:valR T l=0:=hv.out l (by rw[←hl0];simp[List.getD,hkl])
   have hll:l.length≤4096:=(accE_ok (val_ok hvl).1).2.1
   have HMK:Hid (M.getD k ByteArray.empty=strOfNums (labS l).1):=by unfold Hid;rw[←HM.out,←hl0];simp[List.getD,hkl]
   rw[hl0]at hck hqc hi0
   have HL:=Lib.hid hl0
   have HKL:=Lib.hid hkl
   have HI0:=Lib.hid hi0
   obtain⟨Z,E1,hZ⟩:∃Z E1,Hid (labS l=(Z,E1)):=⟨_,_,rfl⟩
   obtain⟨U,hU⟩:∃U,Hid (strOfNums Z=U):=⟨_,rfl⟩
   obtain⟨nl,hnl⟩:∃n,l.length=n:=⟨_,rfl⟩
   rw[hnl]at hck hqc hll
   have HNL:=Lib.hid hnl
   have HKM:=Lib.hid hkM
   clear hl0 hkl hkM hi0 hnl hvl
   go_wp2_with fail
   refine(alab_at q nl c l Z E1 U _ HI0.out HNL hqc (by omega) hZ hU).mono ?_
   rintro e w3 ⟨rfl,hb⟩
   have HB3:=Lib.hid (hbel.out.trans (hb.mono hbel.out.size))
   have ho3:=ownsRow_below ho.out hb
   clear hb hbel ho hck
   by_cases h1:E1=0
   ·subst h1
    have e0:((0:Int) !=0)=false:=rfl
    have hcm:=ho3.cellAt k (by omega)
    rw[padB_at M k HKM.out]at hcm
    have hfm:=ho3.frozenAt k
    have hst:=ho3.stored k (.string U)
    have hMU:M.getD k ByteArray.empty=U:=by rw[HMK.out,hZ.out];exact hU.out
    rw[←List.map_set,←hMU,padB_set M k HKM.out,hMU]at hst
    have HA2:=Lib.hid hst.1
    have HB4:=Lib.hid (HB3.out.setCell (p:=⟨w.heap.size,k,none⟩) (Nat.le_refl _) (.string U))
    have HG2:Hid (∀j,j<k+1→(labS (L.getD j [])).2=0):=fun j hj=>by
     by_cases e:j=k
     ·rw[e,HL.out,hZ.out]
     ·exact hgd.out j (by omega)
    clear hst ho3 hMU HB3
    go_wp2
    go_roundw
    case rel=>exact⟨k+1,by omega,by go_num,HG2,HA2,HB4⟩
    case measure=>first|(simp[intOf];done)|(simp[intOf];omega)
   ·have e0:(E1 !=0)=true:=by simp[h1]
    have hy:=hE.out
    rw[ascL_bad HKL.out hgd.out (by rw[HL.out,hZ.out];exact h1),HL.out,hZ.out]at hy
    injection hy with e1 e2
    injection e2 with e2 e3
    subst e1
    subst e2
    simp only at e3
    subst e3
    obtain rfl:S=ByteArray.empty:=by rw[←hS.out];rfl
    clear hE hS h1 ho3
    go_wp2
    go_ret3
    exact⟨rfl,HB3.out⟩
  ·obtain rfl:k=n:=by omega
   have hrow:=ho.out
   rw[←HLM.out,padB_full,HLM.out]at hrow
   have hst:Strs wr w.heap.size (.slice (some ⟨w.heap.size,0,none⟩) k k) M:=by
    unfold Strs
    rw[HLM.out]
    exact hrow
   obtain⟨p5,c5,e5,hi5,hc5⟩:=hst.inn
   rw[HLM.out]at e5 hc5
   injection e5 with e51 _ e52
   subst e51
   subst e52
   have HI5:=Lib.hid hi5
   obtain⟨hn1,hn2⟩:=asc_name hv.out (mem_getDI (X:=L) (P:=fun y=>(labS y).2=0) (by rw[HN.out];exact hgd.out))
   rw[HM.out,hE.out]at hn1
   rw[hE.out]at hn2
   simp only at hn1 hn2
   rw[hS.out]at hn1
   obtain rfl:K=0:=hn2
   have HNE:=Lib.hid hn1
   clear hn1 hst hrow ho hi5 hc5
   go_wp2_with fail
   refine(name_at _ k k S E M _ HI5.out HLM (Nat.le_refl _) (by omega) HNE).mono ?_
   rintro e w3 ⟨rfl,hb⟩
   have HB3:=Lib.hid (hbel.out.trans (hb.mono hbel.out.size))
   clear hb hbel
   go_wp2
   go_ret3
   exact⟨rfl,HB3.out⟩
set_option maxRecDepth 100000 in
set_option maxHeartbeats 4000000 in
theorem itoa_at (x : TV) (T : Tb) (s S : ByteArray) (X : List Int) (K : Nat) (E : Int) (w : World) (hx : TabV w x T) (hr : Rsv w) (hs : s.size ≤ 140737488355328) (hR : Hid (toaR T s.data.toList = (X, K, E))) (hS : Hid (strOfNums X = S)) :
  Calls Tryz.prog 19 #[x.agg,.string s] w (Gives (.tuple #[.string S,.int .i64 K,.int .i64 E]) w):=by
 obtain⟨Y,K0,E0,hP⟩:∃Y K0 E0,Hid (procR T s.data.toList=(Y,K0,E0)):=⟨_,_,_,rfl⟩
 have HE:=Lib.hid (Env.new hx)
 have HR:=Lib.hid hr
 clear hx hr
 simp only[TV.agg]
 go_enter Tryz.func19,Tryz.ntmps19
 obtain⟨⟨k0,k1,k2,k3,k4,k5⟩,⟨k6,k7,k8,k9,k10,k11⟩⟩:=HE.out.box.load
 go_wp2_with fail
 refine(iproc_at x T s Y K0 E0 _ HE.out.tab (HR.out.below HE.out.bel) hs hP).mono ?_
 rintro e w1 ⟨p1,n1,c1,rfl,hi1,hn1,hc1,hn4,hb⟩
 replace HE:=Lib.hid (HE.out.step hb)
 clear hb
 clear k0 k1 k2 k3 k4 k5 k6 k7 k8 k9 k10 k11
 have HI1:=Lib.hid hi1
 have HN1:=Lib.hid hn1
 clear hi1 hn1
 by_cases h0:E0=0
 ·subst h0
  have d0:((0:Int) !=0)=false:=rfl
  have h0:(procR T s.data.toList).2.2=0:=by rw[hP.out]
  have HV:Hid (∀y∈Y,valR T y=0):=by have:=(procR_ok h0).2.2.2.2.1;rwa[hP.out]at this
  have HA:Hid (ascL Y=(X,K,E)):=by
   have:=hR.out
   unfold toaR at this
   rw[if_neg (by rw[h0];simp),hP.out]at this
   exact this
  clear hR h0 hP
  go_wp2_with fail
  refine(ascn_at T p1 n1 c1 Y X K E S _ HI1.out HN1 hn4 HV HA hS).mono ?_
  rintro e w2 ⟨rfl,hb⟩
  replace HE:=Lib.hid (HE.out.step hb)
  clear hb
  go_wp2
  go_ret3
  exact⟨rfl,HE.out.bel⟩
 ·have d0:(E0 !=0)=true:=by simp[h0]
  have hy:=hR.out
  unfold toaR at hy
  rw[if_pos (by rw[hP.out];exact h0),hP.out]at hy
  injection hy with e1 e2
  injection e2 with e2 e3
  subst e1
  subst e2
  subst e3
  obtain rfl:S=ByteArray.empty:=by rw[←hS.out];rfl
  clear hR hS h0
  go_wp2
  go_ret3
  exact⟨rfl,HE.out.bel⟩
set_option maxRecDepth 100000 in
set_option maxHeartbeats 4000000 in
theorem itou_at (x : TV) (T : Tb) (s S : ByteArray) (X : List Int) (K : Nat) (E : Int) (w : World) (hx : TabV w x T) (hr : Rsv w) (hs : s.size ≤ 140737488355328) (hR : Hid (touR T s.data.toList = (X, K, E))) (hS : Hid ((encodeS X).1 = S)) :
  Calls Tryz.prog 20 #[x.agg,.string s] w (Gives (.tuple #[.string S,.int .i64 K,.int .i64 E]) w):=by
 obtain⟨Y,K0,E0,hP⟩:∃Y K0 E0,Hid (procR T s.data.toList=(Y,K0,E0)):=⟨_,_,_,rfl⟩
 have HE:=Lib.hid (Env.new hx)
 have HR:=Lib.hid hr
 clear hx hr
 simp only[TV.agg]
 go_enter Tryz.func20,Tryz.ntmps20
 obtain⟨⟨k0,k1,k2,k3,k4,k5⟩,⟨k6,k7,k8,k9,k10,k11⟩⟩:=HE.out.box.load
 go_wp2_with fail
 refine(iproc_at x T s Y K0 E0 _ HE.out.tab (HR.out.below HE.out.bel) hs hP).mono ?_
 rintro e w1 ⟨p1,n1,c1,rfl,hi1,hn1,hc1,hn4,hb⟩
 replace HE:=Lib.hid (HE.out.step hb)
 clear hb
 clear k0 k1 k2 k3 k4 k5 k6 k7 k8 k9 k10 k11
 have HI1:=Lib.hid hi1
 have HN1:=Lib.hid hn1
 clear hi1 hn1
 by_cases h0:E0=0
 ·subst h0
  have d0:((0:Int) !=0)=false:=rfl
  have h0:(procR T s.data.toList).2.2=0:=by rw[hP.out]
  have HV:Hid (∀y∈Y,valR T y=0):=by have:=(procR_ok h0).2.2.2.2.1;rwa[hP.out]at this
  obtain⟨A,K1,E1,hA⟩:∃A K1 E1,Hid (ascL Y=(A,K1,E1)):=⟨_,_,_,rfl⟩
  obtain⟨SA,hSA⟩:∃SA,Hid (strOfNums A=SA):=⟨_,rfl⟩
  have HTA:Hid (toaR T s.data.toList=(A,K1,E1)):=by
   unfold Hid toaR
   rw[if_neg (by rw[h0];simp),hP.out]
   exact hA.out
  clear h0
  go_wp2_with fail
  refine(ascn_at T p1 n1 c1 Y A K1 E1 SA _ HI1.out HN1 hn4 HV hA hSA).mono ?_
  rintro e w2 ⟨rfl,hb⟩
  replace HE:=Lib.hid (HE.out.step hb)
  replace HI1:=Lib.hid (HI1.out.below hb)
  clear hb
  by_cases h1:E1=0
  ·subst h1
   have d1:((0:Int) !=0)=false:=rfl
   have hte:=tou_enc (T:=T) (s:=s.data.toList) (by rw[HTA.out])
   rw[hP.out]at hte
   simp only at hte
   have hy:=hR.out
   unfold touR at hy
   rw[if_neg (by rw[HTA.out];simp),hP.out]at hy
   injection hy with e1 e2
   injection e2 with e2 e3
   simp only at e1
   subst e2
   subst e3
   have HX:=Lib.hid e1
   rw[e1]at hte
   have HTE:Hid (encodeS X=(S,0)):=by
    have h:=hte.1
    have h2:=hS.out
    rw[h]at h2
    simp only at h2
    unfold Hid
    rw[h,h2]
   have hxl:=hte.2
   clear hte hR e1
   go_wp2_with fail
   refine(join_at p1 n1 c1 Y X _ HI1.out HN1 hc1 (by omega) HX (by unfold Hid;omega)).mono ?_
   rintro e w3 ⟨v3,rfl,hi3,hb⟩
   replace HE:=Lib.hid (HE.out.step hb)
   obtain⟨p3,c3,rfl,hin3,hc3⟩:=ints_capA hi3
   have HI3:=Lib.hid hin3
   clear hb hi3 hin3 hc3
   obtain⟨nx,hnx⟩:∃n,X.length=n:=⟨_,rfl⟩
   rw[hnx]at hxl ⊢
   go_wp2_with fail
   refine(encode_at p3 c3 nx X S 0 _ HI3.out (by rw[hnx];unfold maxLen;omega) hnx HTE).mono ?_
   rintro e w4 ⟨rfl,hb⟩
   replace HE:=Lib.hid (HE.out.step hb)
   clear hb hnx
   go_wp2
   go_ret3
   exact⟨rfl,HE.out.bel⟩
  ·have d1:(E1 !=0)=true:=by simp[h1]
   have hy:=hR.out
   unfold touR at hy
   rw[if_pos (by rw[HTA.out];exact h1),HTA.out]at hy
   injection hy with e1 e2
   injection e2 with e2 e3
   subst e1
   subst e2
   subst e3
   obtain rfl:S=ByteArray.empty:=by rw[←hS.out];rfl
   clear hR hS h1
   go_wp2
   go_ret3
   exact⟨rfl,HE.out.bel⟩
 ·have d0:(E0 !=0)=true:=by simp[h0]
  have hy:=hR.out
  unfold touR toaR at hy
  rw[if_pos (by rw[if_pos (by rw[hP.out];exact h0),hP.out];exact h0),if_pos (by rw[hP.out];exact h0),hP.out]at hy
  injection hy with e1 e2
  injection e2 with e2 e3
  subst e1
  subst e2
  subst e3
  obtain rfl:S=ByteArray.empty:=by rw[←hS.out];rfl
  clear hR hS h0
  go_wp2
  go_ret3
  exact⟨rfl,HE.out.bel⟩
set_option maxHeartbeats 4000000 in
theorem pos18_at (x : TV) (T : Tb) (s S : ByteArray) (X : List Int) (K : Nat) (E : Int) (w : World) (hx : TabV w x T) (hr : Rsv w) (hs : s.size ≤ 140737488355328) (hR : Hid (toaR T s.data.toList = (X, K, E))) (hS : Hid (strOfNums X = S)) :
  Calls Tryz.prog 38 #[x.agg,.string s] w (Gives (.tuple #[.int .i64 K,.int .i64 E]) w):=by
 have HE:=Lib.hid (Env.new hx)
 have HR:=Lib.hid hr
 clear hx hr
 simp only[TV.agg]
 go_enter Tryz.func38,Tryz.ntmps38
 obtain⟨⟨k0,k1,k2,k3,k4,k5⟩,⟨k6,k7,k8,k9,k10,k11⟩⟩:=HE.out.box.load
 go_wp2_with fail
 refine(itoa_at x T s S X K E _ HE.out.tab (HR.out.below HE.out.bel) hs hR hS).mono ?_
 rintro e w1 ⟨rfl,hb⟩
 replace HE:=Lib.hid (HE.out.step hb)
 clear hb k0 k1 k2 k3 k4 k5 k6 k7 k8 k9 k10 k11
 go_wp2
 go_ret2
 exact⟨rfl,HE.out.bel⟩
set_option maxRecDepth 100000 in
set_option maxHeartbeats 4000000 in
theorem awake18_any (w:World) (hr:Rsv w):Calls Tryz.prog 12 #[] w (Gives (.bool true) w):=by
 have htb:TabV (w.alloc (.cells (tabCells veX) 26)) veX veT:=ve_tab _
 have hbx:=BoxT.new w veX 26
 have hb1:=(Below.refl w.heap.size w).alloc (Nat.le_refl _) (.cells (tabCells veX) 26)
 have HR:=Lib.hid hr
 have HE:Hid (LEnv w w.heap.size veX veT (w.alloc (.cells (tabCells veX) 26))):=⟨htb,hbx,hb1⟩
 clear hr hb1 htb hbx
 obtain⟨x,hx⟩:∃x,veX=x:=⟨_,rfl⟩
 have hcl:tabCells veX=#[x.a0,x.a1,x.a2,x.a3,x.a4,x.a5,x.a6,x.a7,x.a8,x.a9,x.a10,x.a11]:=by first|(rw[hx];done)|(rw[hx];rfl)
 have HX:Hid (#[x.a0,x.a1,x.a2,x.a3,x.a4,x.a5,x.a6,x.a7,x.a8,x.a9,x.a10,x.a11]=#[.slice none 0 0,.slice none 0 0,.slice none 0 0,.slice none 0 0,.slice none 0 0,.slice none 0 0,.slice none 0 0,.slice none 0 0,.slice none 0 0,.slice none 0 0,.slice none 0 0,.slice none 0 0]):=by unfold Hid;first|(rw[←hx];done)|(rw[←hx];rfl)
 rw[hcl,HX.out,hx]at HE
 clear hcl hx HX
 go_enter Tryz.func12,Tryz.ntmps12
 go_upto_region 2 with(fail)
 generalize w.alloc (.cells #[.slice none 0 0,.slice none 0 0,.slice none 0 0,.slice none 0 0,.slice none 0 0,.slice none 0 0,.slice none 0 0,.slice none 0 0,.slice none 0 0,.slice none 0 0,.slice none 0 0,.slice none 0 0] 26)=WB at HE ⊢
 obtain⟨⟨k0,k1,k2,k3,k4,k5⟩,⟨k6,k7,k8,k9,k10,k11⟩⟩:=HE.out.box.load
 go_wp2_with fail
 refine(itoa_at x veT (ByteArray.mk #[69,120,97,109,112,108,101]) (ByteArray.mk #[101,120,97,109,112,108,101]) [101,120,97,109,112,108,101] 0 0 _ HE.out.tab (HR.out.below HE.out.bel) (by decide) (Lib.hid il1) (Lib.hid il4)).mono ?_
 rintro e w1 ⟨rfl,hb⟩
 replace HE:=Lib.hid (HE.out.step hb)
 clear hb k0 k1 k2 k3 k4 k5 k6 k7 k8 k9 k10 k11
 obtain⟨⟨k0,k1,k2,k3,k4,k5⟩,⟨k6,k7,k8,k9,k10,k11⟩⟩:=HE.out.box.load
 go_wp2_with fail
 refine(pos18_at x veT (ByteArray.mk #[97,46,46,98]) ByteArray.empty [] 1 10 _ HE.out.tab (HR.out.below HE.out.bel) (by decide) (Lib.hid il2) (Lib.hid rfl)).mono ?_
 rintro e w2 ⟨rfl,hb⟩
 replace HE:=Lib.hid (HE.out.step hb)
 clear hb k0 k1 k2 k3 k4 k5 k6 k7 k8 k9 k10 k11
 obtain⟨⟨k0,k1,k2,k3,k4,k5⟩,⟨k6,k7,k8,k9,k10,k11⟩⟩:=HE.out.box.load
 go_wp2_with fail
 refine(pos18_at x veT (ByteArray.mk #[120,110,45,45,57]) ByteArray.empty [] 0 12 _ HE.out.tab (HR.out.below HE.out.bel) (by decide) (Lib.hid il3) (Lib.hid rfl)).mono ?_
 rintro e w3 ⟨rfl,hb⟩
 replace HE:=Lib.hid (HE.out.step hb)
 clear hb k0 k1 k2 k3 k4 k5 k6 k7 k8 k9 k10 k11
 have HBZ:=Lib.hid HE.out.bel
 go_wp2
 go_ret
 exact⟨rfl,HBZ.out⟩
end Go.Proofs.YtblcoicaeeiojaaGreatDoor
