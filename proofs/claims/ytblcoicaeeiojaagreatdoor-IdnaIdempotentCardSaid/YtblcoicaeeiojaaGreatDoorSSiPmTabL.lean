/-
  table: rule 5.
  table: expansion.size.
-/
import Derived.Test.YtblcoicaeeiojaaGreatDoorSSiPmTabK
import Derived.Test.YtblcoicaeeiojaaGreatDoorSSiPmTabMem
set_option linter.unusedSimpArgs false
set_option linter.unusedVariables false
namespace Go.Proofs.YtblcoicaeeiojaaGreatDoor
open Go.RowKit
theorem cntV_append (v:Int) (a b:List Sp):cntV v (a++b)=cntV v a+cntV v b:=by
 induction a with
 | nil=>simp[cntV]
 | cons s r ih=>simp only[List.cons_append,cntV,ih];omega
theorem cntV_snoc (v:Int) (a:List Sp) (s:Sp):cntV v (a++[s])=cntV v a+if s.2.2=v then s.2.1-s.1+1 else 0:=by
 rw[cntV_append];simp[cntV]
theorem cntV_bd {lo v:Int} {l:List Sp} (h:ascB lo l=true):0≤cntV v l∧cntV v l≤ends lo l-lo:=by
 induction l generalizing lo with
 | nil=>simp[cntV,ends]
 | cons s r ih=>rw[asc_cons]at h;have:=ih h.2.2.2;simp only[cntV,ends];split<;>omega
set_option maxHeartbeats 2000000 in
theorem cntV_any (v0 : Value) (l : List Sp) (x : Int) (w : World) (hv : SpV w v0 l) (ha : ascB 0 l = true) :
  Calls Tryz.prog 209 #[v0,.int .i64 x] w (Gives (.int .i64 (cntV x l)) w):=by
 obtain⟨p,cp,rfl,hin,hn⟩:=hv
 obtain⟨n,hl⟩:∃n,l.length=n:=⟨_,rfl⟩
 rw[hl]at hn ⊢
 have HI:=Lib.hid hin
 have HL:=Lib.hid hl
 have HA:=Lib.hid ha
 clear hin hl ha
 go_enter Tryz.func209,Tryz.ntmps209
 go_wp2
 go_loopw [5,10] (fun v i wr=>∃k:Nat,k≤n∧i = .int .i64 k∧(∃z:Int,0≤z∧z≤1114112∧v = .int .i64 z∧Hid (cntV x (l.take k)=z))∧Hid (Below w.heap.size w wr)) (fun _ i _=>n-(intOf i).toNat)
 case atStart=>exact⟨0,Nat.zero_le _,rfl,⟨0,by omega,by omega,rfl,rfl⟩,Below.refl _ _⟩
 case round =>
  obtain⟨k,hk,rfl,⟨z,hz0,hz1,rfl,hz⟩,hbel⟩:=hrel
  by_cases hlt:k<n
  ·have hkl:k<l.length:=by rw[HL.out];exact hlt
   obtain⟨b,off,rfl,hc1,hc2,hc3⟩:=(HI.out.below hbel.out) k hkl
   obtain⟨a1,a2,a3⟩:=asc_getD HA.out k hkl
   have hbd:=cntV_bd (v:=x) (asc_take (k+1) HA.out)
   have hle:=ends_le (asc_take (k+1) HA.out) (by omega)
   have hsn:cntV x (l.take (k+1))=z+if(l.getD k sp0).2.2=x then(l.getD k sp0).2.1-(l.getD k sp0).1+1 else 0:=by rw[take_snoc_sp l k hkl,cntV_snoc,hz.out]
   obtain⟨⟨f,t,v⟩,hs⟩:∃s,l.getD k sp0=s:=⟨_,rfl⟩
   rw[hs]at hc1 hc2 hc3 a1 a2 a3 hsn
   simp only at hc1 hc2 hc3 a1 a2 a3 hsn
   by_cases hvx:v=x
   ·have hb1:(v==x)=true:=by simp[hvx]
    rw[if_pos hvx]at hsn
    have hb0:z+(t-f+1)≤1114112:=by omega
    have HC:=Lib.hid hsn
    clear hs hsn hbd hle hvx
    go_wp2
    go_roundw
    case rel=>exact⟨k+1,by omega,by go_num,⟨z+(t-f+1),by omega,hb0,by go_num,HC⟩,hbel.out.alloc hbel.out.size _⟩
    case measure=>simp[intOf];omega
   ·have hb1:(v==x)=false:=by simp[hvx]
    rw[if_neg hvx,Int.add_zero]at hsn
    have HC:=Lib.hid hsn
    clear hs hsn hbd hle hvx
    go_wp2
    go_roundw
    case rel=>exact⟨k+1,by omega,by go_num,⟨z,hz0,hz1,rfl,HC⟩,hbel.out.alloc hbel.out.size _⟩
    case measure=>simp[intOf];omega
  ·obtain rfl:k=n:=by omega
   have HZ:Hid (cntV x l=z):=by
    unfold Hid;rw[←hz.out,List.take_of_length_le (Nat.le_of_eq HL.out)]
   go_wp2
   go_ret
   rw[HZ.out]
   exact⟨rfl,hbel.out⟩
theorem cntV_at (v0 : Value) (l : List Sp) (x z : Int) (w : World) (hv : SpV w v0 l) (ha : ascB 0 l = true) (hz : Hid (cntV x l = z)) :
  Calls Tryz.prog 209 #[v0,.int .i64 x] w (Gives (.int .i64 z) w):=hz.out▸cntV_any v0 l x w hv ha
theorem BoxT.load {w:World} {g:Nat} {x:TV} (h:BoxT w g x):(w.cell? ⟨g,0,none⟩=some x.a0∧w.cell? ⟨g,1,none⟩=some x.a1∧w.cell? ⟨g,2,none⟩=some x.a2∧w.cell? ⟨g,3,none⟩=some x.a3∧w.cell? ⟨g,4,none⟩=some x.a4∧w.cell? ⟨g,5,none⟩=some x.a5)∧
 (w.cell? ⟨g,6,none⟩=some x.a6∧w.cell? ⟨g,7,none⟩=some x.a7∧w.cell? ⟨g,8,none⟩=some x.a8∧w.cell? ⟨g,9,none⟩=some x.a9∧w.cell? ⟨g,10,none⟩=some x.a10∧w.cell? ⟨g,11,none⟩=some x.a11):=h
theorem mapOk_parts {T:Tb} {f:Int} {y:List Int}:mapOk T (f,y)=(decide (staT T f=3)&&y.all (okSta T)):=rfl
set_option maxRecDepth 100000 in
set_option maxHeartbeats 8000000 in
theorem mapsOfStatus_any (x : TV) (T : Tb) (w : World) (hx : TabV w x T) (ha : ascB 0 T.sta = true) :
  Calls Tryz.prog 144 #[x.agg] w (Gives (.bool (r5 T)) w):=by
 obtain⟨a0,a1,a2,a3,a4,a5,a6,a7,a8,a9,a10,a11⟩:=x
 obtain⟨pm,cm,hm,hmin,hml⟩:=hx.map
 obtain⟨n,hn⟩:∃n,T.map.length=n:=⟨_,rfl⟩
 rw[hn]at hm hml
 simp only at hm
 subst hm
 have HE:=Lib.hid (Env.new hx)
 have HA:=Lib.hid ha
 have HN:=Lib.hid hn
 have HMI:=Lib.hid hmin
 obtain⟨C,hC⟩:∃C,Hid (cntV 3 T.sta=C):=⟨_,rfl⟩
 have HR:Hid (T.map.all (mapOk T)=true→r5 T=decide ((n:Int)=C)):=fun h=>by
  unfold r5;rw[h,hC.out,hn,Bool.true_and,Bool.eq_iff_iff];simp;omega
 have HF:Hid (T.map.all (mapOk T)=false→r5 T=false):=fun h=>by unfold r5;rw[h];rfl
 clear hx ha hn hmin
 simp only[TV.agg]
 go_enter Tryz.func144,Tryz.ntmps144
 go_wp2
 go_loopw [11] (fun i wr=>∃k:Nat,k≤n∧i = .int .i64 k∧Hid ((T.map.take k).all (mapOk T)=true)∧Hid (Env w ⟨a0,a1,a2,a3,a4,a5,a6,a7,.slice pm n cm,a9,a10,a11⟩ T wr)) (fun i _=>n-(intOf i).toNat)
 case atStart=>exact⟨0,Nat.zero_le _,rfl,by simp[Hid],HE⟩
 case round =>
  obtain⟨k,hk,rfl,hall,he⟩:=hrel
  by_cases hlt:k<n
  ·have hkl:k<T.map.length:=by rw[HN.out];exact hlt
   obtain⟨b,off,v,rfl,hc1,hc2,qa,cq,rfl,hi2,hm2⟩:=(HMI.out.below he.out.bel) k hkl
   have hsn:=all_take_snoc (mapOk T) T.map k mp0 hkl
   rw[hall.out,Bool.true_and]at hsn
   have hno:mapOk T (T.map.getD k mp0)=false→r5 T=false:=fun h=>HF.out (all_of_take _ T.map (k+1) (by rw[hsn,h]))
   obtain⟨⟨f,y⟩,hs⟩:∃s,T.map.getD k mp0=s:=⟨_,rfl⟩
   rw[hs]at hc1 hc2 hsn hno hi2 hm2
   simp only at hc1 hc2 hsn hno hi2 hm2
   rw[mapOk_parts]at hsn hno
   obtain⟨m,hm3⟩:∃m,y.length=m:=⟨_,rfl⟩
   rw[hm3]at hc2 hm2
   have HSN:=Lib.hid hsn
   have HNO:=Lib.hid hno
   have HY:=Lib.hid hi2
   have HYL:=Lib.hid hm3
   have HEb:=Lib.hid (he.out.step ((Below.refl _ _).alloc (Nat.le_refl _) (.cells #[.int .i64 f,.slice qa m cq] 73)))
   have HBM:=Lib.hid (BoxM.new wr f (.slice qa m cq) 73)
   have HY1:=Lib.hid (RowIn.alloc hi2 (.cells #[.int .i64 f,.slice qa m cq] 73))
   obtain⟨z,hz⟩:∃z,Hid (staT T f=z):=⟨_,rfl⟩
   clear hs hsn hno hi2 hm3
   have hbx:=HEb.out.box
   simp only[BoxT]at hbx
   obtain⟨⟨k0,k1,k2,k3,k4,k5⟩,⟨k6,k7,k8,k9,k10,k11⟩⟩:=hbx
   go_wp2_with fail
   refine(status_at _ T f z _ HEb.out.tab HA.out hz).mono ?_
   rintro e w2 ⟨rfl,hb2⟩
   have HE2:=Lib.hid (HEb.out.step hb2)
   have HBM2:=Lib.hid (HBM.out.below hb2)
   have HY2:=Lib.hid (HY1.out.below hb2)
   clear hb2 k0 k1 k2 k3 k4 k5 k6 k7 k8 k9 k10 k11 hc1 hc2
   by_cases hz3:z=3
   ·have d3:(z !=3)=false:=by simp[hz3]
    have HZ:Hid (staT T f=3):=hz.out.trans hz3
    have hbm:=HBM2.out
    simp only[BoxM]at hbm
    obtain⟨c1,c2⟩:=hbm
    clear hz3
    go_wp2
    obtain⟨wo,rfl⟩:∃wo:World,wo=w2:=⟨_,rfl⟩
    go_loopw [23] (fun i wr2=>∃j:Nat,j≤m∧i = .int .i64 j∧Hid ((y.take j).all (okSta T)=true)∧Hid (Env w ⟨a0,a1,a2,a3,a4,a5,a6,a7,.slice (some ⟨b,off,none⟩) n cm,a9,a10,a11⟩ T wr2)∧Hid (IntsIn wr2 qa y)) (fun i _=>m-(intOf i).toNat)
    case atStart=>exact⟨0,Nat.zero_le _,rfl,by simp[Hid],HE2,HY2⟩
    case round =>
     obtain⟨j,hj,rfl,hall2,he2,hy2⟩:=hrel
     clear c1 c2
     by_cases hlt2:j<m
     ·have hjl:j<y.length:=by rw[HYL.out];exact hlt2
      obtain⟨b3,off3,rfl,hc3⟩:=hy2.out j hjl
      have hs2:=all_take_snoc (okSta T) y j 0 hjl
      rw[hall2.out,Bool.true_and]at hs2
      obtain⟨c,hcc⟩:∃c,y.getD j 0=c:=⟨_,rfl⟩
      rw[hcc]at hc3 hs2
      have HS2:=Lib.hid hs2
      obtain⟨u,hu⟩:∃u,Hid (staT T c=u):=⟨_,rfl⟩
      have hok:okSta T c=(decide (u=1)||decide (u=4)):=by rw[okSta,hu.out]
      have HOK:=Lib.hid hok
      have hbx:=he2.out.box
      simp only[BoxT]at hbx
      obtain⟨⟨k0,k1,k2,k3,k4,k5⟩,⟨k6,k7,k8,k9,k10,k11⟩⟩:=hbx
      clear hcc hs2 hok
      go_wp2_with fail
      refine(status_at _ T c u _ he2.out.tab HA.out hu).mono ?_
      rintro e w3 ⟨rfl,hb3⟩
      have HE3:=Lib.hid (he2.out.step hb3)
      have HY3:=Lib.hid (hy2.out.below hb3)
      clear hb3 k0 k1 k2 k3 k4 k5 k6 k7 k8 k9 k10 k11 hc3
      by_cases h1:u=1
      ·have d1:(u !=1)=false:=by simp[h1]
       have HT:Hid ((y.take (j+1)).all (okSta T)=true):=by unfold Hid;rw[HS2.out,HOK.out,h1];rfl
       clear h1
       go_wp2
       go_roundw
       case rel=>exact⟨j+1,by omega,by go_num,HT,HE3,HY3⟩
       case measure=>simp[intOf];omega
      ·have d1:(u !=1)=true:=by simp[h1]
       by_cases h4:u=4
       ·have d4:(u !=4)=false:=by simp[h4]
        have HT:Hid ((y.take (j+1)).all (okSta T)=true):=by unfold Hid;rw[HS2.out,HOK.out,h4];rfl
        clear h1 h4
        go_wp2
        go_roundw
        case rel=>exact⟨j+1,by omega,by go_num,HT,HE3,HY3⟩
        case measure=>simp[intOf];omega
       ·have d4:(u !=4)=true:=by simp[h4]
        have HFF:Hid (r5 T=false):=HNO.out (by
         rw[all_of_take (okSta T) y (j+1) (by rw[HS2.out,HOK.out];simp[h1,h4]),Bool.and_false])
        clear h1 h4
        go_wp2
        go_ret
        rw[HFF.out]
        exact⟨rfl,HE3.out.bel⟩
     ·obtain rfl:j=m:=by omega
      have HT:Hid ((T.map.take (k+1)).all (mapOk T)=true):=by
       have h:=hall2.out
       rw[List.take_of_length_le (Nat.le_of_eq HYL.out)]at h
       unfold Hid;rw[HSN.out,HZ.out,h];rfl
      go_wp2
      go_roundw
      case rel=>exact⟨k+1,by omega,by go_num,HT,he2⟩
      case measure=>simp[intOf];omega
   ·have d3:(z !=3)=true:=by simp[hz3]
    have HFF:Hid (r5 T=false):=HNO.out (by rw[hz.out,decide_eq_false hz3];rfl)
    clear hz3
    go_wp2
    go_ret
    rw[HFF.out]
    exact⟨rfl,HE2.out.bel⟩
  ·obtain rfl:k=n:=by omega
   have HT:Hid (T.map.all (mapOk T)=true):=by
    have:=hall.out
    rwa[List.take_of_length_le (Nat.le_of_eq HN.out)]at this
   have HRR:=Lib.hid (HR.out HT.out)
   have he1:=he.out.step (drew_one wr)
   have HE1:=Lib.hid he1
   have hbx:=he.out.box
   simp only[BoxT]at hbx
   obtain⟨⟨_,_,_,_,_,k5⟩,⟨_,_,k8,_,_,_⟩⟩:=hbx
   clear he1
   go_wp2_with fail
   go_region_held3 (fun w'=>w'.cell? ⟨w.heap.size,5,none⟩=some a5∧w'.cell? ⟨w.heap.size,8,none⟩=some (.slice pm k cm))
    (first
     | go_keep
     | exact⟨(HE1.out.step hb2).at5,(HE1.out.step hb2).at8⟩)
    (first
     | (go_at_call 209;(with_reducible refine(cntV_at a5 T.sta 3 C _ HE1.out.tab.sta HA.out hC).mono ?_);rintro e w2 ⟨rfl,hb2⟩))
   all_goals
    go_wp2
    go_ret
    exact⟨iff_ret (by rw[HRR.out];simp),(HE1.out.step hb2).bel⟩
structure SzSt (w0 w:World) (g h:Nat) (p:Option Addr) (n c:Nat) (S:List Int):Prop where
 dec:w.cell? ⟨g,0,none⟩=some (.slice p n c)
 szs:w.cell? ⟨g,1,none⟩=some (.slice (some ⟨h,0,none⟩) n n)
 cel:∀i,i<n→w.cell? ⟨h,i,none⟩=some (.int .i64 (S.getD i 0))
 fro:∀i,i<n→w.frozen? ⟨h,i,none⟩=false
 len:S.length=n
 bel:Below w0.heap.size w0 w
 hlt:h<w.heap.size
 glt:g<w.heap.size
theorem SzSt.below {w0 w w':World} {g h n c:Nat} {p:Option Addr} {S:List Int} (s:SzSt w0 w g h p n c S) (hb:Below w.heap.size w w'):SzSt w0 w' g h p n c S :=
 ⟨(hb.cell (p:=⟨g,0,none⟩) s.glt).trans s.dec,(hb.cell (p:=⟨g,1,none⟩) s.glt).trans s.szs,fun i hi=>(hb.cell (p:=⟨h,i,none⟩) s.hlt).trans (s.cel i hi),fun i hi=>(hb.frozen (p:=⟨h,i,none⟩) s.hlt).trans (s.fro i hi),s.len,
  s.bel.trans (hb.mono s.bel.size),Nat.lt_of_lt_of_le s.hlt hb.size,Nat.lt_of_lt_of_le s.glt hb.size⟩
theorem SzSt.set {w0 w:World} {g h n c:Nat} {p:Option Addr} {S:List Int} (s:SzSt w0 w g h p n c S) (hg:g≠h) (hh:w0.heap.size≤h) (i:Nat) (hi:i<n) (v:Int):SzSt w0 (w.setCell ⟨h,i,none⟩ (.int .i64 v)) g h p n c (S.set i v):=by
 have hl:=s.len
 refine⟨(World.cell?_setCell_other _ _ _ _ (by simp[hg])).trans s.dec,(World.cell?_setCell_other _ _ _ _ (by simp[hg])).trans s.szs,fun j hj=>?_,fun j hj=>(World.frozen?_setCell _ _ _ _).trans (s.fro j hj),by rw[List.length_set,hl],
  s.bel.setCell (p:=⟨h,i,none⟩) hh _,by simpa[World.setCell] using s.hlt,by simpa[World.setCell] using s.glt⟩
 rw[getD_set S i j v (by omega)]
 by_cases hji:j=i
 ·subst hji
  rw[if_pos rfl]
  exact World.cell?_setCell_same _ _ _ (s.cel j hj)
 ·rw[if_neg hji]
  exact(World.cell?_setCell_other _ _ _ _ (by first|(simp;done)|(simp;omega))).trans (s.cel j hj)
theorem grown_below {w w':World} {h:Nat} (hb:Below w.heap.size w w'):w.grownBy w' (some h):=below_grownBy hb _
theorem grown_trans {w w1 w2:World} {row:Option Nat} (h:w.grownBy w1 row) (k:w1.grownBy w2 row):w.grownBy w2 row :=
 ⟨k.os.trans h.os,k.tape.trans h.tape,k.output.trans h.output,Nat.le_trans h.size k.size,fun i hi hne=>(k.block i (Nat.lt_of_lt_of_le hi h.size) hne).trans (h.block i hi hne)⟩
def SzPost (w0:World) (g h:Nat) (p:Option Addr) (n c:Nat) (l:List Mp) (S:List Int) (z:Nat) (w:World) (e:Ending) (w':World):Prop :=
 ∃S',e = .returned (.int .i64 z)∧SzSt w0 w' g h p n c S'∧Ext l S S'∧w.grownBy w' (some h)
set_option maxRecDepth 100000 in
set_option maxHeartbeats 8000000 in
theorem size_any (w0 : World) (g h : Nat) (p : Option Addr) (n cp : Nat) (l : List Mp) (hl : l.length = n) (hn : n ≤ 256) (hin : MpIn w0 p l) (ha : ascI 0 1114111 (froms l) = true)
  (h2:∀m∈l,m.2.length≤2) (h1:∀m∈l,m.2≠[]) (hh:w0.heap.size≤h) (hg:g≠h) (N:Nat) :
  ∀(S:List Int) (c:Int) (w:World),zeros S≤N→SzSt w0 w g h p n cp S→Kn l S c→
   Calls Tryz.prog 211 #[.pointer (some ⟨g,0,none⟩),.int .i64 c] w (SzPost w0 g h p n cp l S (siz l c) w):=by
 have HI:=Lib.hid hin
 have HL:=Lib.hid hl
 have HA:=Lib.hid ha
 have H2:=Lib.hid h2
 have H1:=Lib.hid h1
 have HG:=Lib.hid hg
 clear hin hl ha h2 h1
 induction N using Nat.strongRecOn with
 | _ N ih0 =>
  have IH:=Lib.hid ih0
  clear ih0
  intro S c w hz hs hk
  have HS:=Lib.hid hs
  have HK:=Lib.hid hk
  have HZ:=Lib.hid hz
  clear hk hz
  cases hm:hasM l c with
  | false =>
   have HM:=Lib.hid hm
   have HV:Hid (siz l c=1):=siz_nil (findM_nil hm)
   obtain⟨d1,d2,_,_,_,_,_,_⟩:=hs
   clear hm
   go_enter Tryz.func211,Tryz.ntmps211
   go_wp2_with fail
   refine(findMp_any (.slice p n cp) l c _ ⟨p,cp,by rw[HL.out],HI.out.below HS.out.bel,by rw[HL.out];omega⟩ HA.out).mono ?_
   rintro e w1 ⟨i,rfl,hi,_,hb⟩
   have HB:=Lib.hid hb
   clear hb
   rw[HM.out]
   go_wp2
   go_ret
   exact⟨S,by rw[HV.out];rfl,HS.out.below HB.out,Ext.refl _ _,grown_below HB.out⟩
  | true =>
   have HM:=Lib.hid hm
   obtain⟨d1,d2,_,_,_,_,_,_⟩:=hs
   clear hm
   go_enter Tryz.func211,Tryz.ntmps211
   go_wp2_with fail
   refine(findMp_any (.slice p n cp) l c _ ⟨p,cp,by rw[HL.out],HI.out.below HS.out.bel,by rw[HL.out];omega⟩ HA.out).mono ?_
   rintro e w1 ⟨i,rfl,hi,hf,hb⟩
   obtain⟨hil,hkey,hto⟩:=hf HM.out
   rw[HM.out]
   have hin:i<n:=by rw[←HL.out];exact hil
   have HS1:=Lib.hid (HS.out.below hb)
   have HB:=Lib.hid hb
   have hiS:Hid (i<S.length):=by unfold Hid;rw[HS.out.len];exact hin
   have HKEY:=Lib.hid hkey
   clear hb d1 d2 hf hi hkey
   obtain⟨d1,d2,d3,d4,_,_,_,_⟩:=HS1.out
   have c3:=d3 i hin
   have f3:=d4 i hin
   clear d3 d4
   obtain⟨s,hsv⟩:∃s,S.getD i 0=s:=⟨_,rfl⟩
   rw[hsv]at c3
   by_cases hs0:s=0
   ·have hb0:(s==0)=true:=by simp[hs0]
    have HS0:Hid (S.getD i 0=0):=hsv.trans hs0
    have HZ1:Hid (zeros (S.set i 19)+1=zeros S):=zeros_set S i 19 hiS.out HS0.out (by omega)
    have hmem:=mp_getD_mem l i hil
    have HY2:=Lib.hid (H2.out _ hmem)
    have HY1:=Lib.hid (H1.out _ hmem)
    have HFM:=Lib.hid hto
    have HX0:=Lib.hid (HS1.out.set HG.out hh i hin 19)
    have HG0:=Lib.hid (grown_trans (grown_below HB.out) (sp_grownBy_store w1 h i (.int .i64 19)))
    obtain⟨b,off,v,rfl,q1,q2,qa,cq,rfl,hy,hyl⟩:=(HI.out.below (HX0.out.bel)) i hil
    obtain⟨y,hy0⟩:∃y,(l.getD i mp0).2=y:=⟨_,rfl⟩
    rw[hy0]at q2 hy hyl HY2 HY1 HFM
    obtain⟨m,hm⟩:∃m,y.length=m:=⟨_,rfl⟩
    rw[hm]at q2 hyl HY2
    have hm2:=HY2.out
    have HYL:=Lib.hid hm
    have HYI0:Hid (IntsIn w0 qa y):=by
     obtain⟨b',off',v',e',r1,r2,qa',cq',e2,r4,_⟩:=HI.out i hil
     have hbw:=HX0.out.bel
     have hlt:=World.block_lt_of_cell? w0 _ r2
     injection e' with e'
     injection e' with e3 e4
     subst e3;subst e4
     have h5:=(hbw.cell (p:=⟨b,off+i*2+1,none⟩) hlt).trans r2
     rw[q2]at h5
     injection h5 with h5
     rw[e2,hy0]at h5
     injection h5 with h6 _ _
     subst h6
     rw[hy0]at r4
     exact r4
    obtain⟨x1,x2,_,_,_,_,_,_⟩:=HX0.out
    clear hsv hs0 hto hy0 hm hmem hy
    go_wp2
    go_loopw [7,44] (fun vv jj wr=>∃(j:Nat) (S1:List Int) (t:Nat),j≤m∧jj = .int .i64 j∧vv = .int .i64 t∧t≤19*j∧Hid (sumZ l (y.take j)=t)∧Hid (SzSt w0 wr g h (some ⟨b,off,none⟩) n cp S1)∧Hid (Ext l (S.set i 19) S1)∧Hid (w.grownBy wr (some h))) (fun _ jj _=>m-(intOf jj).toNat)
    case atStart=>exact⟨0,S.set i 19,0,Nat.zero_le _,rfl,rfl,by omega,rfl,HX0,Ext.refl _ _,HG0⟩
    case round =>
     clear c3 f3 d1 d2 q1 q2 x1 x2
     obtain⟨j,S1,t,hj,rfl,rfl,ht,hsum,hst,hext,hgr⟩:=hrel
     by_cases hlt:j<m
     ·have hjl:j<y.length:=by rw[HYL.out];exact hlt
      obtain⟨b3,off3,rfl,hc3⟩:=(HYI0.out.below hst.out.bel) j hjl
      have hsn:sumZ l (y.take (j+1))=t+siz l (y.getD j 0):=by rw[take_snoc_int y j hjl,sumZ_snoc,hsum.out]
      have hd:y.getD j 0∈findM l c:=by rw[HFM.out];simp[hjl]
      obtain⟨d,hdd⟩:∃d,y.getD j 0=d:=⟨_,rfl⟩
      rw[hdd]at hc3 hsn hd
      have hbd:=siz_bd l d
      have hkn:=HK.out.part hiS.out HKEY.out hd hext.out
      have hzz:zeros S1≤N-1:=by
       have:=hext.out.zeros;have:=HZ1.out;have:=HZ.out;omega
      have hN:N-1<N:=by have:=HZ1.out;have:=HZ.out;omega
      have HC:=Lib.hid (IH.out (N-1) hN S1 d _ hzz hst.out hkn)
      obtain⟨u,hu⟩:∃u,siz l d=u:=⟨_,rfl⟩
      rw[hu]at hsn hbd HC
      have HSN:=Lib.hid hsn
      clear hdd hd hkn hzz hN hsn hu
      go_wp2_with fail
      refine HC.out.mono ?_
      rintro e w3 ⟨S2,rfl,hst2,hext2,hgr2⟩
      have HST:=Lib.hid hst2
      have HEX:=Lib.hid (hext.out.trans hext2)
      have HGR:=Lib.hid (grown_trans hgr.out hgr2)
      clear hst2 hext2 hgr2 hc3 HC
      go_wp2
      go_roundw
      case rel=>exact⟨j+1,S2,t+u,by omega,by go_num,by go_num,by omega,HSN,HST,HEX,HGR⟩
      case measure=>simp[intOf];omega
     ·obtain rfl:j=m:=by omega
      have hsz:siz l c=min 19 t:=by
       rw[siz_eq (by rw[HL.out];exact hn) (by rw[HFM.out];exact HY1.out),HFM.out]
       have:=hsum.out
       rw[List.take_of_length_le (Nat.le_of_eq HYL.out)]at this
       rw[←this];rfl
      have HSZ:=Lib.hid hsz
      obtain⟨d1,d2,d3,d4,d5,_,_,_⟩:=hst.out
      have c3:=d3 i hin
      have f3:=d4 i hin
      obtain⟨s1,hs1⟩:∃s,S1.getD i 0=s:=⟨_,rfl⟩
      rw[hs1]at c3
      clear d3 d4 hs1 hsz
      by_cases h19:19<t
      ·have hd:decide ((19:Int)<(t:Int))=true:=decide_eq_true (by omega)
       have HV:Hid (((19:Int))=siz l (keyAt l i)):=by show (19:Int)=siz l (l.getD i mp0).1;rw[HKEY.out,HSZ.out];omega
       have HV2:Hid ((siz l c:Int)=19):=by unfold Hid;rw[HSZ.out];omega
       have HE:=Lib.hid (Ext.done hiS.out HS0.out hext.out HV.out)
       have HX:=Lib.hid (hst.out.set HG.out hh i hin 19)
       have HGR:=Lib.hid (grown_trans hgr.out (sp_grownBy_store wr h i (.int .i64 19)))
       go_wp2
       go_ret
       exact⟨_,by rw[HV2.out];rfl,HX.out,HE.out,HGR.out⟩
      ·have hd:decide ((19:Int)<(t:Int))=false:=decide_eq_false (by omega)
       have HV:Hid (((t:Int))=siz l (keyAt l i)):=by show (t:Int)=siz l (l.getD i mp0).1;rw[HKEY.out,HSZ.out];omega
       have HV2:Hid ((siz l c:Int)=t):=by unfold Hid;rw[HSZ.out];omega
       have HE:=Lib.hid (Ext.done hiS.out HS0.out hext.out HV.out)
       have HX:=Lib.hid (hst.out.set HG.out hh i hin t)
       have HGR:=Lib.hid (grown_trans hgr.out (sp_grownBy_store wr h i (.int .i64 t)))
       go_wp2
       go_ret
       exact⟨_,by rw[HV2.out];rfl,HX.out,HE.out,HGR.out⟩
   ·have hb0:(s==0)=false:=by simp[hs0]
    have HV:Hid ((siz l c:Int)=s):=by
     unfold Hid;rw[←hsv]
     exact(HK.out.found hiS.out HKEY.out (by rw[hsv];exact hs0)).symm
    clear hs0 hsv hto f3
    go_wp2
    go_ret
    exact⟨S,by rw[HV.out];rfl,HS1.out,Ext.refl _ _,grown_below HB.out⟩
end Go.Proofs.YtblcoicaeeiojaaGreatDoor
