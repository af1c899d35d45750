/-
  joiner: contracts of the program.
-/
import Derived.Test.YtblcoicaeeiojaaGreatDoorSSiPmValSpec
import Derived.Test.YtblcoicaeeiojaaGreatDoorSSiPmOrdEnv
import Derived.Test.YtblcoicaeeiojaaGreatDoorSSiPmTabW
import Derived.Test.YtblcoicaeeiojaaGreatDoorSSiPmBidFact
import Derived.BigRegion
import Derived.Deep.RegionHeld3
set_option linter.unusedSimpArgs false
set_option linter.unusedVariables false
namespace Go.Proofs.YtblcoicaeeiojaaGreatDoor
open Go.RowKit
def padJ (L:List Int) (n:Nat):List Int:=L++List.replicate (n-L.length) 0
theorem padJ_nil (n:Nat):padJ [] n=List.replicate n 0:=by simp[padJ]
theorem padJ_full (L:List Int) (n:Nat) (h:n≤L.length):padJ L n=L:=by unfold padJ;rw[Nat.sub_eq_zero_of_le h];simp
theorem padJ_set (L:List Int) (n:Nat) (c:Int) (h:L.length<n):(padJ L n).set L.length c=padJ (L++[c]) n:=by
 unfold padJ
 rw[List.set_append,if_neg (by omega),Nat.sub_self]
 obtain⟨m,hm⟩:∃m,n-L.length=m+1:=⟨n-L.length-1,by omega⟩
 rw[hm,List.replicate_succ,List.set_cons_zero,List.length_append,List.length_singleton,show n-(L.length+1)=m by omega]
 simp
theorem padJ_at (L:List Int) (n:Nat) (t:IntKind) (h:L.length<n):((padJ L n).map (Value.int t))[L.length]? = some (.int t 0):=by
 unfold padJ
 obtain⟨m,hm⟩:∃m,n-L.length=m+1:=⟨n-L.length-1,by omega⟩
 rw[hm,List.getElem?_map,List.getElem?_append_right (Nat.le_refl _)]
 simp
theorem jty_at (T:Tb) (l:List Int) (k:Nat) (hk:k<l.length):(l.map (joiT T)).getD k 0=joiT T (l.getD k 0):=by simp[List.getD,hk]
theorem jdrop (l:List Int) (k:Nat) (h:k<l.length):l.drop k=l.getD k 0::l.drop (k+1):=by rw[List.drop_eq_getElem_cons h];simp[h]
theorem jref_at (x : TV) (T : Tb) (p : Option Addr) (cap : Nat) (zs : List Int) (E : Int) (w : World) (hx : TabV w x T) (hr : Rsv w) (hin : IntsIn w p zs) (hl : zs.length ≤ 17592186043904) (hE : Hid (accE T zs = E)) :
  Calls Tryz.prog 235 #[x.agg,.slice p zs.length cap] w (Gives (.int .i64 E) w):=by
 obtain⟨RL,hRL⟩:∃L,Hid (runsL T zs=L):=⟨_,rfl⟩
 have hac:=fun W (h1:TabV W x T) h2 h3=>runs_at x T p cap zs E RL W h1 h2 h3 hl hE hRL
 have HR:=Lib.hid hr
 have HE:=Lib.hid (Env.new hx)
 have HI:=Lib.hid hin
 obtain⟨n,hn⟩:∃n,zs.length=n:=⟨_,rfl⟩
 rw[hn]at hl hac ⊢
 have HAC:=Lib.hid hac
 clear hx hin hn hr hac
 simp only[TV.agg]
 go_enter Tryz.func235,Tryz.ntmps235
 obtain⟨⟨k0,k1,k2,k3,k4,k5⟩,⟨k6,k7,k8,k9,k10,k11⟩⟩:=HE.out.box.load
 go_wp2_with fail
 refine(HAC.out _ HE.out.tab (HR.out.below HE.out.bel) (HI.out.below HE.out.bel)).mono ?_
 rintro e w1 ⟨v0,rfl,_,hb1⟩
 replace HE:=Lib.hid (HE.out.step hb1)
 clear hb1 k0 k1 k2 k3 k4 k5 k6 k7 k8 k9 k10 k11
 go_wp2
 go_ret
 exact⟨rfl,HE.out.bel⟩
set_option maxRecDepth 100000 in
set_option maxHeartbeats 4000000 in
theorem jtypes_at (x : TV) (T : Tb) (p : Option Addr) (n cap : Nat) (zs L : List Int) (w : World) (hx : TabV w x T) (ha : ascB 0 T.joi = true) (hin : IntsIn w p zs) (hn : Hid (zs.length = n)) (hl : n ≤ 4096) (hL : Hid (zs.map (joiT T) = L)) :
  Calls Tryz.prog 236 #[x.agg,.slice p n cap] w fun e w'=>∃q c,e = .returned (.slice q n c)∧IntsIn w' q L∧Below w.heap.size w w':=by
 obtain⟨i0,hi,hz0,hz1,hz2⟩:=info_parts Tryz.info3
 have HE:=Lib.hid (Env.new hx)
 have HI:=Lib.hid hin
 have HLN:Hid (L.length=n):=by unfold Hid;rw[←hL.out,List.length_map];exact hn.out
 have HA:=Lib.hid ha
 clear hx hin ha
 simp only[TV.agg]
 go_enter Tryz.func236,Tryz.ntmps236
 go_upto_region 1 with(fail)
 have HBW:=Lib.hid HE.out.bel
 generalize hWB:(w.alloc (.cells (tabCells x) 26))=WB at HE HBW
 simp only[tabCells]at hWB
 try rw[hWB]
 clear hWB
 go_wp2_with (at_make;refine wpList_make_full _ rfl _ _ 22 rfl WB.heap.size 3 i0 (.int .i64 0) 1 Tryz.underlying22 hi hz0 hz1 .i64 .i64 _ _ n rfl rfl rfl rfl (by rw[hz2];omega) (by unfold maxLen;omega) (Nat.le_refl _) ?_;intro w0 hown0 hgrow0)
 have hrow0:w0.ownsRow WB.heap.size 3 1 (.slice (some ⟨WB.heap.size,0,none⟩) n n) n ((padJ [] n).map (.int .i64)):=by
  have e:(madeCells (Value.int .i64 0).cells (n*1)).toList=List.replicate (n*1) (.int .i64 0):=toList_madeCells_one _ _
  rw[e]at hown0
  simpa[padJ_nil] using hown0
 have hbel0:Below WB.heap.size WB w0:=(Below.refl _ _).grown hgrow0 (Nat.le_refl _) (by simp)
 have HR0:=Lib.hid hrow0
 have HB0:=Lib.hid hbel0
 clear hrow0 hbel0 hown0 hgrow0
 go_wp2
 go_loopw [13] (fun i wr=>∃k:Nat,k≤n∧i = .int .i64 k∧Hid (wr.ownsRow WB.heap.size 3 1 (.slice (some ⟨WB.heap.size,0,none⟩) n n) n ((padJ (L.take k) n).map (.int .i64)))∧Hid (Below WB.heap.size WB wr)) (fun i _=>n-(intOf i).toNat)
 case atStart=>exact⟨0,Nat.zero_le _,rfl,HR0,HB0⟩
 case round =>
  obtain⟨k,hk,rfl,ho,hbel⟩:=hrel
  have he:=Lib.hid (HE.out.step hbel.out)
  by_cases hlt:k<n
  ·have hkl:k<zs.length:=by rw[hn.out];exact hlt
   obtain⟨b,off,rfl,hck⟩:=(HI.out.below he.out.bel) k hkl
   obtain⟨c,hc⟩:∃c,zs.getD k 0=c:=⟨_,rfl⟩
   rw[hc]at hck
   obtain⟨z,hz⟩:∃z,Hid (joiT T c=z):=⟨_,rfl⟩
   have hsn:L.take (k+1)=L.take k++[z]:=by
    rw[take_snoc_int L k (by rw[HLN.out];exact hlt),←hL.out,jty_at T zs k hkl,hc,hz.out]
   have HSN:=Lib.hid hsn
   clear hc hsn hkl
   obtain⟨⟨k0,k1,k2,k3,k4,k5⟩,⟨k6,k7,k8,k9,k10,k11⟩⟩:=he.out.box.load
   go_wp2_with fail
   refine(joining_at x T c z _ he.out.tab HA.out hz).mono ?_
   rintro e w5 ⟨rfl,hb5⟩
   have ho5:=ownsRow_below ho.out hb5
   have htl:(L.take k).length=k:=by rw[List.length_take,HLN.out];omega
   have hcz:=ho5.cellAt k (by omega)
   have hpa:=padJ_at (L.take k) n .i64 (by omega)
   rw[htl]at hpa
   rw[hpa]at hcz
   have hf:=ho5.frozenAt k
   have hst:=ho5.stored k (.int .i64 z)
   have hps:=padJ_set (L.take k) n z (by omega)
   rw[htl,←HSN.out]at hps
   rw[←List.map_set,hps]at hst
   have HA2:=Lib.hid hst.1
   have HB2:=Lib.hid ((hbel.out.trans (hb5.mono hbel.out.size)).setCell (p:=⟨WB.heap.size,k,none⟩) (Nat.le_refl _) (.int .i64 z))
   clear hst ho ho5 hpa htl hps hbel hb5 he hck
   clear k0 k1 k2 k3 k4 k5 k6 k7 k8 k9 k10 k11
   go_wp2
   go_roundw
   case rel=>exact⟨k+1,by omega,by go_num,HA2,HB2⟩
   case measure=>first|(simp[intOf];done)|(simp[intOf];omega)
  ·obtain rfl:k=n:=by omega
   have h1:=ho.out
   rw[List.take_of_length_le (by rw[HLN.out];exact Nat.le_refl _),padJ_full _ _ (by rw[HLN.out];exact Nat.le_refl _)]at h1
   have hO:Ints wr WB.heap.size (.slice (some ⟨WB.heap.size,0,none⟩) k k) L:=by
    unfold Ints;rw[HLN.out];exact h1
   obtain⟨q,c,e,hq⟩:=hO.inn
   injection e with e1 e2 e3
   subst e1
   have HQ:=Lib.hid hq
   clear h1 ho hO hq
   go_wp2
   go_ret
   exact⟨_,_,rfl,HQ.out,HBW.out.trans (hbel.out.mono (by have:=HBW.out.size;exact this))⟩
set_option maxRecDepth 100000 in
set_option maxHeartbeats 4000000 in
theorem jnbl_at (T : Tb) (zs L : List Int) (q : Option Addr) (n c m : Nat) (R : Int) (w : World) (hin : IntsIn w q L) (hL : Hid (zs.map (joiT T) = L)) (hn : Hid (zs.length = n)) (hm : m < n) (hl : n ≤ 4096) (hR : Hid (optI (lefK T zs m) = R)) :
  Calls Tryz.prog 288 #[.slice q n c,.int .i64 m,.int .i64 (-1)] w (Gives (.int .i64 R) w):=by
 have HI:=Lib.hid hin
 have HLN:Hid (L.length=n):=by unfold Hid;rw[←hL.out,List.length_map];exact hn.out
 clear hin
 go_enter Tryz.func288,Tryz.ntmps288
 have s1:IntKind.i64.wrap ((m:Int) + -1)=(m:Int)-1:=(IntWalk.i64_in _ (by omega)).trans (by omega)
 go_wp2
 go_loopw [7] (fun a wr=>∃k:Nat,k≤m∧a = .int .i64 ((k:Int)-1)∧Hid (optI (lefK T zs k)=R)∧Hid (Below w.heap.size w wr)) (fun a _=>(intOf a+1).toNat)
 case atStart=>exact⟨m,Nat.le_refl _,by first|rfl|(rw[s1])|(congr 1;omega),hR,Lib.hid (Below.refl _ _)⟩
 case round =>
  obtain⟨k',hk,rfl,hv,hb⟩:=hrel
  cases k' with
  | zero =>
   have hi1:(((0:Nat):Int)-1) = -1:=rfl
   rw[hi1]
   have g1:decide ((0:Int)≤-1)=false:=rfl
   have HK2:Hid (R = -1):=by unfold Hid;rw[←hv.out];rfl
   go_wp2
   go_ret
   exact⟨by rw[HK2.out];rfl,hb.out⟩
  | succ k =>
   have hi1:(((k+1:Nat):Int)-1)=(k:Int):=by omega
   rw[hi1]
   have g1:decide ((0:Int)≤(k:Int))=true:=decide_eq_true (by omega)
   have g2:decide ((k:Int)<(n:Int))=true:=decide_eq_true (by omega)
   have hkl:k<zs.length:=by rw[hn.out];omega
   obtain⟨b,off,rfl,hck⟩:=(HI.out.below hb.out) k (by rw[HLN.out];omega)
   obtain⟨z,hz⟩:∃z,L.getD k 0=z:=⟨_,rfl⟩
   rw[hz]at hck
   have hz2:joiT T (zs.getD k 0)=z:=by rw[←hz,←hL.out,jty_at T zs k hkl]
   have HST:Hid ((if z=5 then optI (lefK T zs k) else(k:Int))=R):=by
    unfold Hid
    rw[←hv.out,lefK];unfold solB;rw[hz2]
    by_cases h:z=5<;>simp[h,optI]
   have i0:(0:Int)≤(k:Int):=by omega
   have i1:(k:Int)<(n:Int):=by omega
   have s2:IntKind.i64.wrap ((k:Int) + -1)=(k:Int)-1:=(IntWalk.i64_in _ (by omega)).trans (by omega)
   clear hz hz2 hv hkl
   by_cases h5:z=5
   ·have d5:(z !=5)=false:=by simp[h5]
    have HK2:Hid (optI (lefK T zs k)=R):=by unfold Hid;rw[←HST.out,if_pos h5]
    clear h5 HST
    go_wp2
    go_roundw
    case rel=>exact⟨k,by omega,by first|rfl|(rw[s2])|(congr 1;omega),HK2,hb⟩
    case measure=>first|(simp[intOf];done)|(simp[intOf];omega)
   ·have d5:(z !=5)=true:=by simp[h5]
    have HK2:Hid (R=(k:Int)):=by unfold Hid;rw[←HST.out,if_neg h5]
    clear h5 HST
    go_wp2
    go_ret
    exact⟨by rw[HK2.out];rfl,hb.out⟩
set_option maxRecDepth 100000 in
set_option maxHeartbeats 4000000 in
theorem jnbr_at (T : Tb) (zs L : List Int) (q : Option Addr) (n c m : Nat) (R : Int) (w : World) (hin : IntsIn w q L) (hL : Hid (zs.map (joiT T) = L)) (hn : Hid (zs.length = n)) (hm : m < n) (hl : n ≤ 4096) (hR : Hid (optI (rigL T (m + 1) (zs.drop (m + 1))) = R)) :
  Calls Tryz.prog 288 #[.slice q n c,.int .i64 m,.int .i64 1] w (Gives (.int .i64 R) w):=by
 have HI:=Lib.hid hin
 have HLN:Hid (L.length=n):=by unfold Hid;rw[←hL.out,List.length_map];exact hn.out
 clear hin
 go_enter Tryz.func288,Tryz.ntmps288
 have s1:IntKind.i64.wrap ((m:Int)+1)=((m+1:Nat):Int):=(IntWalk.i64_in _ (by omega)).trans (by omega)
 go_wp2
 go_loopw [7] (fun a wr=>∃j:Nat,m+1≤j∧j≤n∧a = .int .i64 (j:Int)∧Hid (optI (rigL T j (zs.drop j))=R)∧Hid (Below w.heap.size w wr)) (fun a _=>n-(intOf a).toNat)
 case atStart=>exact⟨m+1,Nat.le_refl _,by omega,by first|rfl|(rw[s1])|(congr 1;omega),hR,Lib.hid (Below.refl _ _)⟩
 case round =>
  obtain⟨j,hjm,hj,rfl,hv,hb⟩:=hrel
  have g1:decide ((0:Int)≤(j:Int))=true:=decide_eq_true (by omega)
  by_cases hlt:j<n
  ·have g2:decide ((j:Int)<(n:Int))=true:=decide_eq_true (by omega)
   have hkl:j<zs.length:=by rw[hn.out];exact hlt
   obtain⟨b,off,rfl,hck⟩:=(HI.out.below hb.out) j (by rw[HLN.out];exact hlt)
   obtain⟨z,hz⟩:∃z,L.getD j 0=z:=⟨_,rfl⟩
   rw[hz]at hck
   have hz2:joiT T (zs.getD j 0)=z:=by rw[←hz,←hL.out,jty_at T zs j hkl]
   have HST:Hid ((if z=5 then optI (rigL T (j+1) (zs.drop (j+1))) else(j:Int))=R):=by
    unfold Hid
    rw[←hv.out,jdrop zs j hkl,rigL];unfold solB;rw[hz2]
    by_cases h:z=5<;>simp[h,optI]
   have i0:(0:Int)≤(j:Int):=by omega
   have i1:(j:Int)<(n:Int):=by omega
   have s2:IntKind.i64.wrap ((j:Int)+1)=((j+1:Nat):Int):=(IntWalk.i64_in _ (by omega)).trans (by omega)
   clear hz hz2 hv hkl
   by_cases h5:z=5
   ·have d5:(z !=5)=false:=by simp[h5]
    have HK2:Hid (optI (rigL T (j+1) (zs.drop (j+1)))=R):=by unfold Hid;rw[←HST.out,if_pos h5]
    clear h5 HST
    go_wp2
    go_roundw
    case rel=>exact⟨j+1,by omega,by omega,by first|rfl|go_num|(rw[s2]),HK2,hb⟩
    case measure=>first|(simp[intOf];done)|(simp[intOf];omega)
   ·have d5:(z !=5)=true:=by simp[h5]
    have HK2:Hid (R=(j:Int)):=by unfold Hid;rw[←HST.out,if_neg h5]
    clear h5 HST
    go_wp2
    go_ret
    exact⟨by rw[HK2.out];rfl,hb.out⟩
  ·obtain rfl:j=n:=by omega
   have g2:decide ((j:Int)<(j:Int))=false:=decide_eq_false (by omega)
   have HK2:Hid (R = -1):=by unfold Hid;rw[←hv.out,List.drop_eq_nil_of_le (by rw[hn.out];exact Nat.le_refl _)];rfl
   go_wp2
   go_ret
   exact⟨by rw[HK2.out];rfl,hb.out⟩
set_option maxHeartbeats 1000000 in
theorem jnx_at (z : Int) (B : Bool) (w : World) (hB : Hid ((decide (z = 1) || decide (z = 3)) = B)) :
  Calls Tryz.prog 289 #[.int .i64 z] w (Gives (.bool B) w):=by
 by_cases h1:z=1
 ·subst h1
  obtain rfl:B=true:=by rw[←hB.out];rfl
  clear hB
  go_enter Tryz.func289,Tryz.ntmps289
  go_wp2
  go_ret
  exact⟨rfl,Below.refl _ _⟩
 ·have d1:(z==1)=false:=by simp[h1]
  obtain rfl:B=(z==3):=by rw[←hB.out,decide_eq_false h1,Bool.false_or];by_cases h3:z=3<;>simp[h3]
  clear hB h1
  go_enter Tryz.func289,Tryz.ntmps289
  go_wp2
  go_ret
  exact⟨rfl,Below.refl _ _⟩
set_option maxHeartbeats 1000000 in
theorem jpv_at (z : Int) (B : Bool) (w : World) (hB : Hid ((decide (z = 2) || decide (z = 3)) = B)) :
  Calls Tryz.prog 290 #[.int .i64 z] w (Gives (.bool B) w):=by
 by_cases h1:z=2
 ·subst h1
  obtain rfl:B=true:=by rw[←hB.out];rfl
  clear hB
  go_enter Tryz.func290,Tryz.ntmps290
  go_wp2
  go_ret
  exact⟨rfl,Below.refl _ _⟩
 ·have d1:(z==2)=false:=by simp[h1]
  obtain rfl:B=(z==3):=by rw[←hB.out,decide_eq_false h1,Bool.false_or];by_cases h3:z=3<;>simp[h3]
  clear hB h1
  go_enter Tryz.func290,Tryz.ntmps290
  go_wp2
  go_ret
  exact⟨rfl,Below.refl _ _⟩
set_option maxRecDepth 100000 in
set_option maxHeartbeats 4000000 in
theorem jbrk_at (T : Tb) (zs L : List Int) (q : Option Addr) (n c m : Nat) (R : Bool) (w : World) (hin : IntsIn w q L) (hL : Hid (zs.map (joiT T) = L)) (hn : Hid (zs.length = n)) (hm : m < n) (hl : n ≤ 4096) (hR : Hid (betB T zs m = R)) :
  Calls Tryz.prog 274 #[.slice q n c,.int .i64 m] w (Gives (.bool R) w):=by
 have HI:=Lib.hid hin
 have HLN:Hid (L.length=n):=by unfold Hid;rw[←hL.out,List.length_map];exact hn.out
 obtain⟨a,ha⟩:∃a,Hid (optI (lefK T zs m)=a):=⟨_,rfl⟩
 obtain⟨d,hd⟩:∃d,Hid (optI (rigL T (m+1) (zs.drop (m+1)))=d):=⟨_,rfl⟩
 clear hin
 go_enter Tryz.func274,Tryz.ntmps274
 go_wp2_with fail
 refine(jnbl_at T zs L q n c m a _ HI.out hL hn hm hl ha).mono ?_
 rintro e w1 ⟨rfl,hb1⟩
 have HB1:=Lib.hid hb1
 clear hb1
 go_wp2_with fail
 refine(jnbr_at T zs L q n c m d _ (HI.out.below HB1.out) hL hn hm hl hd).mono ?_
 rintro e w2 ⟨rfl,hb2⟩
 have HB2:=Lib.hid (HB1.out.trans (hb2.mono HB1.out.size))
 clear hb2 HB1
 cases e1:lefK T zs m with
 | none =>
  obtain rfl:a = -1:=by rw[←ha.out,e1];rfl
  obtain rfl:R=false:=by rw[←hR.out];unfold betB;rw[e1]
  clear ha hd hR e1
  go_wp2
  go_ret
  exact⟨rfl,HB2.out⟩
 | some a' =>
  obtain rfl:a=(a':Int):=by rw[←ha.out,e1];rfl
  have ham:a'<n:=Nat.lt_trans ((lefK_some T zs m a').1 e1).1 hm
  have n1:((a':Int) != -1)=true:=by rw[bne_iff_ne];omega
  have a0:(0:Int)≤(a':Int):=by omega
  have a1:(a':Int)<(n:Int):=by omega
  obtain⟨b5,off5,rfl,hck5⟩:=(HI.out.below HB2.out) a' (by rw[HLN.out];exact ham)
  obtain⟨z1,hz1⟩:∃z,L.getD a' 0=z:=⟨_,rfl⟩
  rw[hz1]at hck5
  have HZ1:Hid (joiT T (zs.getD a' 0)=z1):=by unfold Hid;rw[←hz1,←hL.out,jty_at T zs a' (by rw[hn.out];exact ham)]
  obtain⟨B1,hB1⟩:∃B,Hid ((decide (z1=1)||decide (z1=3))=B):=⟨_,rfl⟩
  have HJ1:Hid (joL T (zs.getD a' 0)=B1):=by unfold Hid joL;rw[HZ1.out];exact hB1.out
  clear ha hz1
  go_wp2_with fail
  refine(jnx_at z1 B1 _ hB1).mono ?_
  rintro e w3 ⟨rfl,hb3⟩
  replace HB2:=Lib.hid (HB2.out.trans (hb3.mono HB2.out.size))
  clear hb3 hck5
  cases B1 with
  | false =>
   obtain rfl:R=false:=by
    rw[←hR.out];unfold betB;rw[e1]
    cases rigK T zs m with
    | none=>rfl
    | some b=>simp only;rw[HJ1.out];rfl
   clear hd hR e1
   go_wp2
   go_ret
   exact⟨rfl,HB2.out⟩
  | true =>
   cases e2:rigK T zs m with
   | none =>
    obtain rfl:d = -1:=by rw[←hd.out];have h:=e2;unfold rigK at h;rw[h];rfl
    obtain rfl:R=false:=by rw[←hR.out];unfold betB;rw[e1,e2]
    clear hd hR e1 e2
    go_wp2
    go_ret
    exact⟨rfl,HB2.out⟩
   | some d' =>
    obtain rfl:d=(d':Int):=by rw[←hd.out];have h:=e2;unfold rigK at h;rw[h];rfl
    have hdn:d'<n:=by have:=((rigK_some T zs m d').1 e2).2.1;rw[hn.out]at this;exact this
    have n2:((d':Int) != -1)=true:=by rw[bne_iff_ne];omega
    have c0:(0:Int)≤(d':Int):=by omega
    have c1:(d':Int)<(n:Int):=by omega
    obtain⟨b6,off6,e6,hck6⟩:=(HI.out.below HB2.out) d' (by rw[HLN.out];exact hdn)
    injection e6 with e6
    injection e6 with e6 e7 _
    subst e6
    subst e7
    obtain⟨z2,hz2⟩:∃z,L.getD d' 0=z:=⟨_,rfl⟩
    rw[hz2]at hck6
    have HZ2:Hid (joiT T (zs.getD d' 0)=z2):=by unfold Hid;rw[←hz2,←hL.out,jty_at T zs d' (by rw[hn.out];exact hdn)]
    have HRR:Hid ((decide (z2=2)||decide (z2=3))=R):=by
     unfold Hid;rw[←hR.out];unfold betB;rw[e1,e2];simp only;rw[HJ1.out,Bool.true_and];unfold joR;rw[HZ2.out]
    clear hd hz2 hR e1 e2
    go_wp2_with fail
    refine(jpv_at z2 R _ HRR).mono ?_
    rintro e w4 ⟨rfl,hb4⟩
    replace HB2:=Lib.hid (HB2.out.trans (hb4.mono HB2.out.size))
    clear hb4 hck6
    go_wp2
    go_ret
    exact⟨rfl,HB2.out⟩
set_option maxRecDepth 100000 in
set_option maxHeartbeats 4000000 in
theorem jisp_at (x : TV) (T : Tb) (p : Option Addr) (n cap : Nat) (zs L : List Int) (q : Option Addr) (cq m : Nat) (R : Bool) (w : World) (hx : TabV w x T) (hc : ascB 0 T.cls = true) (hin : IntsIn w p zs) (hy : IntsIn w q L) (hL : Hid (zs.map (joiT T) = L)) (HN : Hid (zs.length = n)) (hm : m < n) (hl : n ≤ 4096) (hR : Hid (permB T zs m = R)) :
  Calls Tryz.prog 237 #[x.agg,.slice p n cap,.slice q n cq,.int .i64 m] w (Gives (.bool R) w):=by
 have HE:=Lib.hid (Env.new hx)
 have HI:=Lib.hid hin
 have HY:=Lib.hid hy
 have HAC:=Lib.hid hc
 have HNN:=HN.out
 clear hx hin hy hc
 simp only[TV.agg]
 go_enter Tryz.func237,Tryz.ntmps237
 go_upto_region 1 with(fail)
 generalize hWB:(w.alloc (.cells (tabCells x) 26))=WB at HE
 simp only[tabCells]at hWB
 try rw[hWB]
 clear hWB
 have hml:m<zs.length:=by rw[HN.out];exact hm
 obtain⟨b,off,rfl,hck⟩:=(HI.out.below HE.out.bel) m hml
 obtain⟨cv,hcv⟩:∃c,zs.getD m 0=c:=⟨_,rfl⟩
 rw[hcv]at hck
 have HPM:Hid (R=if cv≠8204∧cv≠8205 then true else aftV T zs m||(decide (cv=8204)&&betB T zs m)):=by unfold Hid;rw[←hR.out];unfold permB;rw[hcv]
 have i0:(0:Int)≤(m:Int):=by omega
 have i1:(m:Int)<(n:Int):=by omega
 clear hR hcv
 by_cases h4:cv=8204
 ·subst h4
  by_cases hk0:m=0
  ·have HZf:Hid (aftV T zs m=false):=by unfold Hid aftV;rw[decide_eq_false (by omega)];rfl
   have HP2:Hid (R=(decide ((8204:Int)=8204)&&betB T zs m)):=by unfold Hid;rw[HPM.out,if_neg (by decide),HZf.out,Bool.false_or]
   have d0:decide ((0:Int)<(m:Int))=false:=decide_eq_false (by omega)
   have hk1:¬0<m:=by omega
   clear hk0
   go_upto_region 5 with(fail)
   refine wp_region_layB (by kernel_rfl) (by kernel_rfl) ?_
   repeat (go_big_quiet_step (fail))
   refine wpQuiet_nil ?_
   intro _ hw'
   obtain⟨pq,hw''⟩:=hw'
   subst hw''
   have HE3:=Lib.hid (HE.out.step (layB_below WB pq))
   generalize layB WB pq=W3 at HE3 ⊢
   have HP3:Hid (betB T zs m=R):=by unfold Hid;rw[HP2.out];simp
   go_wp2_with fail
   refine(jbrk_at T zs L q n cq m R _ (HY.out.below HE3.out.bel) hL HN hm hl HP3).mono ?_
   rintro e w4 ⟨rfl,hb4⟩
   replace HE3:=Lib.hid (HE3.out.step hb4)
   clear hb4
   go_wp2
   go_ret
   exact⟨rfl,HE3.out.bel⟩
  ·obtain⟨k',hk'⟩:∃j,j+1=m:=⟨m-1,by omega⟩
   obtain⟨b2,off2,e2,hc2⟩:=(HI.out.below HE.out.bel) k' (by omega)
   injection e2 with e2
   injection e2 with e2 e3 _
   subst e2
   subst e3
   obtain⟨c2,hcc2⟩:∃c,zs.getD k' 0=c:=⟨_,rfl⟩
   rw[hcc2]at hc2
   obtain⟨z,hz⟩:∃z,Hid (clsT T c2=z):=⟨_,rfl⟩
   have HZz:Hid (aftV T zs m=decide (z=9)):=by
    unfold Hid aftV
    rw[decide_eq_true (show 0<m by omega),show m-1=k' by omega,hcc2,hz.out];rfl
   have HP2':Hid (R=(decide (z=9)||(decide ((8204:Int)=8204)&&betB T zs m))):=by unfold Hid;rw[HPM.out,if_neg (by decide),HZz.out]
   have d0:decide ((0:Int)<(m:Int))=true:=decide_eq_true (by omega)
   have hk1:0<m:=by omega
   have j0:(0:Int)≤(k':Int):=by omega
   have j1:(k':Int)<(n:Int):=by omega
   have e1:(m:Int)-1=(k':Int):=by omega
   have e2:IntKind.i64.wrap (k':Int)=(k':Int):=IntWalk.i64_in _ (by omega)
   go_upto_region 5 with(fail)
   have K20:=fun p=>layB_cell hc2 p
   have cc:=fun p=>layB_call (p:=p) fun W2 hW2=>class_at x T c2 z W2 (HE.out.tab.below hW2) HAC.out hz
   simp only[TV.agg]at cc
   have CC:=Lib.hid cc
   clear cc hcc2 hc2 hk' hk0
   obtain⟨⟨k0,k1,k2,k3,k4,k5⟩,⟨k6,k7,k8,k9,k10,k11⟩⟩:=HE.out.box.load
   have K0:=fun p=>layB_cell k0 p
   have K1:=fun p=>layB_cell k1 p
   have K2:=fun p=>layB_cell k2 p
   have K3:=fun p=>layB_cell k3 p
   have K4:=fun p=>layB_cell k4 p
   have K5:=fun p=>layB_cell k5 p
   have K6:=fun p=>layB_cell k6 p
   have K7:=fun p=>layB_cell k7 p
   have K8:=fun p=>layB_cell k8 p
   have K9:=fun p=>layB_cell k9 p
   have K10:=fun p=>layB_cell k10 p
   have K11:=fun p=>layB_cell k11 p
   clear k0 k1 k2 k3 k4 k5 k6 k7 k8 k9 k10 k11
   refine wp_region_layB (by kernel_rfl) (by kernel_rfl) ?_
   repeat (go_big_quiet_step ((go_at_call 155;with_reducible exact CC.out _)))
   refine wpQuiet_nil ?_
   intro _ hw'
   obtain⟨pq,hw''⟩:=hw'
   subst hw''
   have HE3:=Lib.hid (HE.out.step (layB_below WB pq))
   generalize layB WB pq=W3 at HE3 ⊢
   clear K0 K1 K2 K3 K4 K5 K6 K7 K8 K9 K10 K11 K20
   by_cases h9:z=9
   ·have d9:(z==9)=true:=by simp[h9]
    obtain rfl:R=true:=by rw[HP2'.out,decide_eq_true h9];rfl
    clear h9
    go_wp2
    go_ret
    exact⟨rfl,HE3.out.bel⟩
   ·have d9:(z==9)=false:=by simp[h9]
    have HP2:Hid (R=(decide ((8204:Int)=8204)&&betB T zs m)):=by unfold Hid;rw[HP2'.out,decide_eq_false h9,Bool.false_or]
    clear h9
    have HP3:Hid (betB T zs m=R):=by unfold Hid;rw[HP2.out];simp
    go_wp2_with fail
    refine(jbrk_at T zs L q n cq m R _ (HY.out.below HE3.out.bel) hL HN hm hl HP3).mono ?_
    rintro e w4 ⟨rfl,hb4⟩
    replace HE3:=Lib.hid (HE3.out.step hb4)
    clear hb4
    go_wp2
    go_ret
    exact⟨rfl,HE3.out.bel⟩
 ·by_cases h5:cv=8205
  ·subst h5
   clear h4
   by_cases hk0:m=0
   ·have HZf:Hid (aftV T zs m=false):=by unfold Hid aftV;rw[decide_eq_false (by omega)];rfl
    have HP2:Hid (R=(decide ((8205:Int)=8204)&&betB T zs m)):=by unfold Hid;rw[HPM.out,if_neg (by decide),HZf.out,Bool.false_or]
    have d0:decide ((0:Int)<(m:Int))=false:=decide_eq_false (by omega)
    have hk1:¬0<m:=by omega
    clear hk0
    go_upto_region 5 with(fail)
    refine wp_region_layB (by kernel_rfl) (by kernel_rfl) ?_
    repeat (go_big_quiet_step (fail))
    refine wpQuiet_nil ?_
    intro _ hw'
    obtain⟨pq,hw''⟩:=hw'
    subst hw''
    have HE3:=Lib.hid (HE.out.step (layB_below WB pq))
    generalize layB WB pq=W3 at HE3 ⊢
    obtain rfl:R=false:=by rw[HP2.out];rfl
    go_wp2
    go_ret
    exact⟨rfl,HE3.out.bel⟩
   ·obtain⟨k',hk'⟩:∃j,j+1=m:=⟨m-1,by omega⟩
    obtain⟨b2,off2,e2,hc2⟩:=(HI.out.below HE.out.bel) k' (by omega)
    injection e2 with e2
    injection e2 with e2 e3 _
    subst e2
    subst e3
    obtain⟨c2,hcc2⟩:∃c,zs.getD k' 0=c:=⟨_,rfl⟩
    rw[hcc2]at hc2
    obtain⟨z,hz⟩:∃z,Hid (clsT T c2=z):=⟨_,rfl⟩
    have HZz:Hid (aftV T zs m=decide (z=9)):=by
     unfold Hid aftV
     rw[decide_eq_true (show 0<m by omega),show m-1=k' by omega,hcc2,hz.out];rfl
    have HP2':Hid (R=(decide (z=9)||(decide ((8205:Int)=8204)&&betB T zs m))):=by unfold Hid;rw[HPM.out,if_neg (by decide),HZz.out]
    have d0:decide ((0:Int)<(m:Int))=true:=decide_eq_true (by omega)
    have hk1:0<m:=by omega
    have j0:(0:Int)≤(k':Int):=by omega
    have j1:(k':Int)<(n:Int):=by omega
    have e1:(m:Int)-1=(k':Int):=by omega
    have e2:IntKind.i64.wrap (k':Int)=(k':Int):=IntWalk.i64_in _ (by omega)
    go_upto_region 5 with(fail)
    have K20:=fun p=>layB_cell hc2 p
    have cc:=fun p=>layB_call (p:=p) fun W2 hW2=>class_at x T c2 z W2 (HE.out.tab.below hW2) HAC.out hz
    simp only[TV.agg]at cc
    have CC:=Lib.hid cc
    clear cc hcc2 hc2 hk' hk0
    obtain⟨⟨k0,k1,k2,k3,k4,k5⟩,⟨k6,k7,k8,k9,k10,k11⟩⟩:=HE.out.box.load
    have K0:=fun p=>layB_cell k0 p
    have K1:=fun p=>layB_cell k1 p
    have K2:=fun p=>layB_cell k2 p
    have K3:=fun p=>layB_cell k3 p
    have K4:=fun p=>layB_cell k4 p
    have K5:=fun p=>layB_cell k5 p
    have K6:=fun p=>layB_cell k6 p
    have K7:=fun p=>layB_cell k7 p
    have K8:=fun p=>layB_cell k8 p
    have K9:=fun p=>layB_cell k9 p
    have K10:=fun p=>layB_cell k10 p
    have K11:=fun p=>layB_cell k11 p
    clear k0 k1 k2 k3 k4 k5 k6 k7 k8 k9 k10 k11
    refine wp_region_layB (by kernel_rfl) (by kernel_rfl) ?_
    repeat (go_big_quiet_step ((go_at_call 155;with_reducible exact CC.out _)))
    refine wpQuiet_nil ?_
    intro _ hw'
    obtain⟨pq,hw''⟩:=hw'
    subst hw''
    have HE3:=Lib.hid (HE.out.step (layB_below WB pq))
    generalize layB WB pq=W3 at HE3 ⊢
    clear K0 K1 K2 K3 K4 K5 K6 K7 K8 K9 K10 K11 K20
    by_cases h9:z=9
    ·have d9:(z==9)=true:=by simp[h9]
     obtain rfl:R=true:=by rw[HP2'.out,decide_eq_true h9];rfl
     clear h9
     go_wp2
     go_ret
     exact⟨rfl,HE3.out.bel⟩
    ·have d9:(z==9)=false:=by simp[h9]
     have HP2:Hid (R=(decide ((8205:Int)=8204)&&betB T zs m)):=by unfold Hid;rw[HP2'.out,decide_eq_false h9,Bool.false_or]
     clear h9
     obtain rfl:R=false:=by rw[HP2.out];rfl
     go_wp2
     go_ret
     exact⟨rfl,HE3.out.bel⟩
  ·have d4:(cv !=8204)=true:=by simp[h4]
   have d5:(cv !=8205)=true:=by simp[h5]
   obtain rfl:R=true:=by rw[HPM.out,if_pos ⟨h4,h5⟩]
   clear h4 h5 HPM
   go_wp2
   go_ret
   exact⟨rfl,HE.out.bel⟩
theorem jbad_first {T:Tb} {l:List Int}:∀(d m k:Nat),m≤k→k<m+d→(∀j,m≤j→j<k→permB T l j=true)→permB T l k=false→badJ T l d m=some k
 | 0,m,k,h1,h2,_,_=>by omega
 | d+1,m,k,h1,h2,hg,hz=>by
  rw[badJ]
  by_cases e:m=k
  ·rw[e,if_pos hz]
  ·rw[if_neg (by rw[hg m (Nat.le_refl _) (by omega)];simp),jbad_first d (m+1) k (by omega) (by omega) (fun j h3 h4=>hg j (by omega) h4) hz]
set_option maxRecDepth 100000 in
set_option maxHeartbeats 4000000 in
theorem jcheck_at (x : TV) (T : Tb) (p : Option Addr) (cap : Nat) (zs : List Int) (K E : Int) (w : World) (hx : TabV w x T) (hr : Rsv w) (hin : IntsIn w p zs) (hl : zs.length ≤ 17592186043904) (hR : Hid (chkJ T zs = (K, E))) :
  Calls Tryz.prog 167 #[x.agg,.slice p zs.length cap] w (Gives (.tuple #[.int .i64 K,.int .i64 E]) w):=by
 obtain⟨A,hA⟩:∃A,Hid (accE T zs=A):=⟨_,rfl⟩
 have HR:=Lib.hid hr
 have HE:=Lib.hid (Env.new hx)
 have HI:=Lib.hid hin
 have hac:=fun W (h1:TabV W x T) h2 h3=>jref_at x T p cap zs A W h1 h2 h3 hl hA
 obtain⟨n,hn⟩:∃n,zs.length=n:=⟨_,rfl⟩
 rw[hn]at hl hac ⊢
 have HN:=Lib.hid hn
 have HAC:=Lib.hid hac
 clear hx hin hn hr hac
 simp only[TV.agg]
 go_enter Tryz.func167,Tryz.ntmps167
 obtain⟨⟨k0,k1,k2,k3,k4,k5⟩,⟨k6,k7,k8,k9,k10,k11⟩⟩:=HE.out.box.load
 go_wp2_with fail
 refine(HAC.out _ HE.out.tab (HR.out.below HE.out.bel) (HI.out.below HE.out.bel)).mono ?_
 rintro e w1 ⟨rfl,hb1⟩
 replace HE:=Lib.hid (HE.out.step hb1)
 clear hb1
 clear k0 k1 k2 k3 k4 k5 k6 k7 k8 k9 k10 k11
 by_cases h0:A=0
 ·subst h0
  have hn4:n≤4096:=by rw[←HN.out];exact(accE_ok hA.out).2.1
  have hsp:=r2_sp (check_rules (accE_ok hA.out).1).2.1
  have HJA:Hid (ascB 0 T.joi=true):=hsp.2.2.1
  have HCA:Hid (ascB 0 T.cls=true):=hsp.2.1
  obtain⟨L,hL⟩:∃L,Hid (zs.map (joiT T)=L):=⟨_,rfl⟩
  clear hsp
  obtain⟨⟨k0,k1,k2,k3,k4,k5⟩,⟨k6,k7,k8,k9,k10,k11⟩⟩:=HE.out.box.load
  go_wp2_with fail
  refine(jtypes_at x T p n cap zs L _ HE.out.tab HJA.out (HI.out.below HE.out.bel) HN hn4 hL).mono ?_
  rintro e w2 ⟨q,c,rfl,hq,hb2⟩
  replace HE:=Lib.hid (HE.out.step hb2)
  have HQ:=Lib.hid hq
  clear hb2 hq
  clear k0 k1 k2 k3 k4 k5 k6 k7 k8 k9 k10 k11
  go_wp2
  go_loopw [20] (fun i wr=>∃k:Nat,k≤n∧i = .int .i64 k∧Hid (∀j,j<k→permB T zs j=true)∧Hid (Env w x T wr)∧Hid (IntsIn wr q L)) (fun i _=>n-(intOf i).toNat)
  case atStart=>exact⟨0,Nat.zero_le _,rfl,fun j hj=>by omega,HE,HQ⟩
  case round =>
   obtain⟨k,hk,rfl,hgd,he,hqq⟩:=hrel
   by_cases hlt:k<n
   ·have hkl:k<zs.length:=by rw[HN.out];exact hlt
    obtain⟨B,hB⟩:∃B,Hid (permB T zs k=B):=⟨_,rfl⟩
    have hB2:=hB.out
    obtain⟨⟨k0,k1,k2,k3,k4,k5⟩,⟨k6,k7,k8,k9,k10,k11⟩⟩:=he.out.box.load
    go_wp2_with fail
    refine(jisp_at x T p n cap zs L q c k B _ he.out.tab HCA.out (HI.out.below he.out.bel) hqq.out hL HN hlt hn4 hB).mono ?_
    rintro e w3 ⟨rfl,hb⟩
    replace he:=Lib.hid (he.out.step hb)
    replace hqq:=Lib.hid (hqq.out.below hb)
    clear hb
    clear k0 k1 k2 k3 k4 k5 k6 k7 k8 k9 k10 k11
    cases B with
    | true =>
     have HGD2:Hid (∀j,j<k+1→permB T zs j=true):=fun j hj=>by
      by_cases e:j=k
      ·rw[e];exact hB2
      ·exact hgd.out j (by omega)
     clear hB2
     go_wp2
     go_roundw
     case rel=>exact⟨k+1,by omega,by go_num,HGD2,he,hqq⟩
     case measure=>first|(simp[intOf];done)|(simp[intOf];omega)
    | false =>
     have hbd:badJ T zs zs.length 0=some k:=jbad_first zs.length 0 k (by omega) (by omega) (fun j _ h=>hgd.out j h) hB2
     have hR2:=hR.out
     unfold chkJ at hR2
     rw[if_neg (by rw[hA.out];simp),hbd]at hR2
     injection hR2 with e1 e2
     subst e1
     subst e2
     clear hB2 hbd
     go_wp2
     go_ret2
     exact⟨rfl,he.out.bel⟩
   ·obtain rfl:k=n:=by omega
    have hbd:badJ T zs zs.length 0=none:=(badJ_none T zs _ 0).2 fun j _ h=>hgd.out j (by rw[HN.out]at h;omega)
    have hR2:=hR.out
    unfold chkJ at hR2
    rw[if_neg (by rw[hA.out];simp),hbd]at hR2
    injection hR2 with e1 e2
    subst e1
    subst e2
    clear hbd
    go_wp2
    go_ret2
    exact⟨rfl,he.out.bel⟩
 ·have d0:(A !=0)=true:=by simp[h0]
  have hR2:=hR.out
  unfold chkJ at hR2
  rw[if_pos (by rw[hA.out];exact h0),hA.out]at hR2
  injection hR2 with e1 e2
  subst e1
  subst e2
  clear h0
  go_wp2
  go_ret2
  exact⟨rfl,HE.out.bel⟩
end Go.Proofs.YtblcoicaeeiojaaGreatDoor
