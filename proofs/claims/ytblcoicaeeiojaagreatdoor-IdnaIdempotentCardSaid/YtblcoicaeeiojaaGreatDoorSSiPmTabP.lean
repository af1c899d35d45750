/-
  table: rule 6.
  table: rules 7 and 9.
-/
import Derived.Test.YtblcoicaeeiojaaGreatDoorSSiPmTabL
import Derived.Deep.DeepCutAuto
set_option linter.unusedSimpArgs false
set_option linter.unusedVariables false
namespace Go.Proofs.YtblcoicaeeiojaaGreatDoor
open Go.RowKit
theorem run_make_full (c : Nat) (hc : c ≤ 4194304) (w : World) :
  (Instr.makeSlice 22 (.int .i64 (c:Int)) (.int .i64 (c:Int))).run Tryz.prog w = .ok (.slice (some ⟨w.heap.size,0,none⟩) c c) (w.alloc (madeI c)):=by
 obtain⟨i0,hi,hz0,hz1,hz2⟩:=info_parts Tryz.info3
 have h:=run_make_rowN (P:=Tryz.prog) 22 3 i0 _ Tryz.underlying22 hi hz0 .i64 .i64 c c (Nat.le_refl _) (by rw[hz2];omega) (by omega) w
 rw[hz1]at h
 exact h
theorem madeI_cell (w:World) (n i:Nat) (hi:i<n):(w.alloc (madeI n)).cell? ⟨w.heap.size,i,none⟩=some (.int .i64 0):=by
 unfold madeI
 rw[World.cell?_alloc_new]
 simp[madeCells,hi,Nat.mod_one,Value.cells]
theorem testForb (w:World):TestI 210 #[] forb w:=fun c W _=>(forb_any c W).mono fun e w' h=>⟨h.1,by rw[h.2];exact Below.refl _ _⟩
theorem entersForb:∀args w,(callFunc 210 args).run Tryz.prog w = .ok (.enter 210 args) w:=enters_of Tryz.func210 (by kernel_rfl) rfl
theorem short2_parts {f:Int} {y:List Int} {m:Nat} {B:Bool} (hm:y.length=m) (hB:y.any forb=B):short2 (f,y)=(decide (m≤2) && !B):=by
 rw[short2,←not_any hB,hm]
theorem SzSt.new {w0 w : World} {g h n c : Nat} {p : Option Addr} (d : w.cell? ⟨g, 0, none⟩ = some (.slice p n c)) (s : w.cell? ⟨g, 1, none⟩ = some (.slice (some ⟨h, 0, none⟩) n n))
  (hc:∀i,i<n→w.cell? ⟨h,i,none⟩=some (.int .i64 0)) (hf:∀i,i<n→w.frozen? ⟨h,i,none⟩=false) (hb:Below w0.heap.size w0 w) (hl:h<w.heap.size):SzSt w0 w g h p n c (List.replicate n 0) :=
 ⟨d,s,fun i hi=>by rw[hc i hi];simp[List.getD,hi],hf,by simp,hb,hl,World.block_lt_of_cell? w _ d⟩
theorem getD_rep (n i:Nat):(List.replicate n (0:Int)).getD i 0=0:=by
 simp only[List.getD_eq_getElem?_getD,List.getElem?_replicate]
 split<;>rfl
def Good (l:List Mp) (S:List Int):Prop:=∀i,i<S.length→S.getD i 0≠0→S.getD i 0=siz l (keyAt l i)
theorem Good.new (l:List Mp) (n:Nat):Good l (List.replicate n 0):=fun i _ h=>absurd (getD_rep n i) h
theorem Good.kn {l:List Mp} {S:List Int} (h:Good l S) (c:Int):Kn l S c:=fun i hi hn => .inl (h i hi hn)
theorem Good.ext {l:List Mp} {S S':List Int} (h:Good l S) (k:Ext l S S'):Good l S':=fun i hi hn=>by
 have hi':i<S.length:=by rw[←k.1];exact hi
 by_cases h0:S.getD i 0=0
 ·rcases(k.2 i hi').2 h0 with e|e
  ·exact absurd e hn
  ·exact e
 ·rw[(k.2 i hi').1 h0];exact h i hi' h0
theorem szst_a (w:World) (p:Option Addr) (k c:Nat) (t:TypeId):SzSt w ((w.alloc (madeI k)).alloc (.cells #[.slice p k c,.slice (some ⟨w.heap.size,0,none⟩) k k] t)) (w.heap.size+1) w.heap.size p k c (List.replicate k 0):=by
 refine SzSt.new ?_ ?_ (fun i hi=>?_) (fun i _=>?_) (((Below.refl _ _).alloc (Nat.le_refl _) _).alloc (by simp) _) (by simp;omega)
 ·have:=World.cell?_alloc_new (w.alloc (madeI k)) #[.slice p k c,.slice (some ⟨w.heap.size,0,none⟩) k k] t
  simp at this ⊢
 ·simp
 ·exact(World.cell?_alloc_lt (w.alloc (madeI k)) _ ⟨w.heap.size,i,none⟩ (by simp)).trans (madeI_cell w k i hi)
 ·simp[madeI]
theorem szst_b (w:World) (p:Option Addr) (k c:Nat) (t:TypeId):SzSt w ((w.alloc (.cells #[.slice p k c,.slice (some ⟨w.heap.size+1,0,none⟩) k k] t)).alloc (madeI k)) w.heap.size (w.heap.size+1) p k c (List.replicate k 0):=by
 refine SzSt.new ?_ ?_ (fun i hi=>?_) (fun i _=>?_) (((Below.refl _ _).alloc (Nat.le_refl _) _).alloc (by simp) _) (by simp)
 ·exact(World.cell?_alloc_lt _ _ ⟨w.heap.size,0,none⟩ (by simp)).trans (by simp[World.cell?_alloc_new])
 ·exact(World.cell?_alloc_lt _ _ ⟨w.heap.size,1,none⟩ (by simp)).trans (by simp[World.cell?_alloc_new])
 ·have:=madeI_cell (w.alloc (.cells #[.slice p k c,.slice (some ⟨w.heap.size+1,0,none⟩) k k] t)) k i hi
  simpa using this
 ·simp[madeI]
theorem Env.grown {w0 w w':World} {x:TV} {T:Tb} {h:Nat} (e:Env w0 x T w) (hx:TabV w0 x T) (hg:w.grownBy w' (some h)) (hh:w0.heap.size<h):Env w0 x T w':=by
 have hb:Below w0.heap.size w0 w':=e.bel.grown hg e.bel.size (by rintro k ⟨⟩;omega)
 obtain⟨⟨h0,h1,h2,h3,h4,h5⟩,⟨h6,h7,h8,h9,h10,h11⟩⟩:=e.box
 have key:∀i v,w.cell? ⟨w0.heap.size,i,none⟩=some v→w'.cell? ⟨w0.heap.size,i,none⟩=some v:=fun i v hc=>hg.cell (a:=⟨w0.heap.size,i,none⟩) hc (by simp;omega)
 exact⟨hx.below hb,⟨⟨key _ _ h0,key _ _ h1,key _ _ h2,key _ _ h3,key _ _ h4,key _ _ h5⟩,⟨key _ _ h6,key _ _ h7,key _ _ h8,key _ _ h9,key _ _ h10,key _ _ h11⟩⟩,hb⟩
set_option maxRecDepth 100000 in
set_option maxHeartbeats 8000000 in
theorem finite_any (x : TV) (T : Tb) (w : World) (hx : TabV w x T) (hl : T.dec.length ≤ 256) (ha : ascI 0 1114111 (froms T.dec) = true) (h1 : ∀ m ∈ T.dec, m.2 ≠ []) :
  Calls Tryz.prog 145 #[x.agg] w (Gives (.bool (r6 T)) w):=by
 obtain⟨a0,a1,a2,a3,a4,a5,a6,a7,a8,a9,a10,a11⟩:=x
 obtain⟨pm,cm,hm,hmin,hml⟩:=hx.dec
 obtain⟨n,hn⟩:∃n,T.dec.length=n:=⟨_,rfl⟩
 rw[hn]at hm hml hl
 simp only at hm
 subst hm
 have HE:=Lib.hid (Env.new hx)
 have HX:=Lib.hid hx
 have HA:=Lib.hid ha
 have HN:=Lib.hid hn
 have HMI:=Lib.hid hmin
 have H1:=Lib.hid h1
 have hmk:=run_make_full n (by omega)
 have HMK:=Lib.hid hmk
 have HF:Hid (T.dec.all short2=false→r6 T=false):=fun h=>by unfold r6;rw[h];rfl
 clear hx ha hn hmin h1 hmk
 simp only[TV.agg]
 go_enter Tryz.func145,Tryz.ntmps145
 go_wp2
 go_loopw [11] (fun i wr=>∃k:Nat,k≤n∧i = .int .i64 k∧Hid ((T.dec.take k).all short2=true)∧Hid (Env w ⟨a0,a1,a2,a3,a4,a5,a6,a7,a8,.slice pm n cm,a10,a11⟩ T wr)) (fun i _=>n-(intOf i).toNat)
 case atStart=>exact⟨0,Nat.zero_le _,rfl,by simp[Hid],HE⟩
 case round =>
  obtain⟨k,hk,rfl,hall,he⟩:=hrel
  by_cases hlt:k<n
  ·have hkl:k<T.dec.length:=by rw[HN.out];exact hlt
   obtain⟨b,off,v,rfl,hc1,hc2,qa,cq,rfl,hi2,hm2⟩:=(HMI.out.below he.out.bel) k hkl
   have hsn:=all_take_snoc short2 T.dec k mp0 hkl
   rw[hall.out,Bool.true_and]at hsn
   have hno:short2 (T.dec.getD k mp0)=false→r6 T=false:=fun h=>HF.out (all_of_take _ T.dec (k+1) (by rw[hsn,h]))
   obtain⟨⟨f,y⟩,hs⟩:∃s,T.dec.getD k mp0=s:=⟨_,rfl⟩
   rw[hs]at hc1 hc2 hsn hno hi2 hm2
   simp only at hc1 hc2 hsn hno hi2 hm2
   obtain⟨m,hm3⟩:∃m,y.length=m:=⟨_,rfl⟩
   obtain⟨B,hB⟩:∃B,Hid (y.any forb=B):=⟨_,rfl⟩
   rw[short2_parts hm3 hB.out]at hsn hno
   rw[hm3]at hc2 hm2
   have HSN:=Lib.hid hsn
   have HNO:=Lib.hid hno
   have HEb:=Lib.hid (he.out.step ((Below.refl _ _).alloc (Nat.le_refl _) (.cells #[.int .i64 f,.slice qa m cq] 73)))
   have HV:Hid (InV (wr.alloc (.cells #[.int .i64 f,.slice qa m cq] 73)) (.slice qa m cq) y):=⟨qa,cq,by rw[hm3],RowIn.alloc hi2 _,by rw[hm3];exact hm2⟩
   clear hs hsn hno hi2 hm3
   by_cases h2:2<m
   ·have d2:decide ((2:Int)<(m:Int))=true:=decide_eq_true (by omega)
    have HFF:=Lib.hid (HNO.out (by simp;omega))
    go_wp2
    go_ret
    rw[HFF.out]
    exact⟨rfl,HEb.out.bel⟩
   ·have d2:decide ((2:Int)<(m:Int))=false:=decide_eq_false (by omega)
    go_wp2_with fail
    refine(conI_any _ y 210 #[] forb B _ HV.out (testForb _) entersForb hB).mono ?_
    rintro e w2 ⟨rfl,hb2⟩
    have HE2:=Lib.hid (HEb.out.step hb2)
    clear hb2
    cases B with
    | true =>
     have HFF:=Lib.hid (HNO.out (by simp))
     go_wp2
     go_ret
     rw[HFF.out]
     exact⟨rfl,HE2.out.bel⟩
    | false =>
     have HT:Hid ((T.dec.take (k+1)).all short2=true):=by unfold Hid;rw[HSN.out];simp;omega
     go_wp2
     go_roundw
     case rel=>exact⟨k+1,by omega,by go_num,HT,HE2⟩
     case measure=>simp[intOf];omega
  ·obtain rfl:k=n:=by omega
   have HT:Hid (T.dec.all short2=true):=by
    have:=hall.out
    rwa[List.take_of_length_le (Nat.le_of_eq HN.out)]at this
   have HR:Hid (r6 T=T.dec.all fun m=>decide (siz T.dec m.1≤18)):=by unfold Hid r6;rw[HT.out];rfl
   have H2:Hid (∀m∈T.dec,m.2.length≤2):=by
    have:=HT.out
    rw[List.all_eq_true]at this
    intro m hm
    have:=this m hm
    simp only[short2,Bool.and_eq_true,decide_eq_true_eq]at this
    exact this.1
   obtain⟨wo,rfl⟩:∃wo:World,wo=wr:=⟨_,rfl⟩
   have HMI1:=Lib.hid (HMI.out.below he.out.bel)
   have hbx:=he.out.box
   simp only[BoxT]at hbx
   obtain⟨_,⟨_,_,_,k9,_,_⟩⟩:=hbx
   have hmk:=HMK.out
   go_upto_region 7 with(fail)
   go_cut [5] (fun v wx=>∃g h,v = .pointer (some ⟨g,0,none⟩)∧Hid (SzSt wo wx g h pm k cm (List.replicate k 0))∧Hid (wo.heap.size≤h)∧Hid (wo.heap.size≤g)∧Hid (g≠h))
   case first =>
    go_region_held3 (fun w'=>w'.cell? ⟨w.heap.size,9,none⟩=some (.slice pm k cm)) (go_keep) (first|fail)
    all_goals
     go_wp2_with fail
     go_meet
     first
      | exact⟨wo.heap.size+1,wo.heap.size,rfl,(szst_a wo pm k cm 177).below (drew_one _),Nat.le_refl _,Nat.le_succ _,Nat.succ_ne_self _⟩
      | exact⟨wo.heap.size,wo.heap.size+1,rfl,(szst_b wo pm k cm 177).below (drew_one _),Nat.le_succ _,Nat.le_refl _,(Nat.succ_ne_self _).symm⟩
   case rest =>
    obtain⟨g,h,rfl,hst,hh,hgg,hgh⟩:=hcut
    have hwr:w.heap.size<wo.heap.size:=World.block_lt_of_cell? wo ⟨w.heap.size,9,none⟩ k9
    have HWR:=Lib.hid hwr
    have HE1:=Lib.hid (he.out.step hst.out.bel)
    have k9':=HE1.out.at9
    simp only at k9'
    clear hmk k9 hwr
    go_wp2
    clear k9'
    go_loopw [35] (fun i wr=>∃(j:Nat) (S:List Int),j≤k∧i = .int .i64 j∧Hid (SzSt wo wr g h pm k cm S)∧Hid (Good T.dec S)∧Hid ((T.dec.take j).all (fun m=>decide (siz T.dec m.1≤18))=true)∧Hid (Env w ⟨a0,a1,a2,a3,a4,a5,a6,a7,a8,.slice pm k cm,a10,a11⟩ T wr)) (fun i _=>k-(intOf i).toNat)
    case atStart=>exact⟨0,List.replicate k 0,Nat.zero_le _,rfl,hst,Good.new _ _,by simp[Hid],HE1⟩
    case round =>
     obtain⟨j,S,hj,rfl,hs,hgood,hall2,he2⟩:=hrel
     by_cases hlt2:j<k
     ·have hjl:j<T.dec.length:=by rw[HN.out];exact hlt2
      obtain⟨b,off,v,rfl,hc1,hc2,qa,cq,rfl,_,_⟩:=(HMI1.out.below hs.out.bel) j hjl
      have hs2:=all_take_snoc (fun m:Mp=>decide (siz T.dec m.1≤18)) T.dec j mp0 hjl
      rw[hall2.out,Bool.true_and]at hs2
      obtain⟨⟨f,y⟩,hfy⟩:∃s,T.dec.getD j mp0=s:=⟨_,rfl⟩
      rw[hfy]at hc1 hc2 hs2
      simp only at hc1 hc2 hs2
      obtain⟨m,hm3⟩:∃m,y.length=m:=⟨_,rfl⟩
      rw[hm3]at hc2
      obtain⟨z,hz⟩:∃z,siz T.dec f=z:=⟨_,rfl⟩
      rw[hz]at hs2
      have HS2:=Lib.hid hs2
      have hb0:Below wr.heap.size wr (wr.alloc (.cells #[.int .i64 f,.slice qa m cq] 73)):=(Below.refl _ _).alloc (Nat.le_refl _) _
      have HSb:=Lib.hid (hs.out.below hb0)
      have HEb:=Lib.hid (he2.out.step hb0)
      have hcall:=size_any wo g h (some ⟨b,off,none⟩) k cm T.dec HN.out hl HMI1.out HA.out H2.out H1.out hh.out hgh.out (zeros S) S f _ (Nat.le_refl _) HSb.out (hgood.out.kn f)
      rw[hz]at hcall
      have HC:=Lib.hid hcall
      clear hfy hs2 hz hm3 hb0 hcall
      go_wp2_with fail
      refine HC.out.mono ?_
      rintro e w3 ⟨S2,rfl,hst2,hext2,hgr2⟩
      have HST:=Lib.hid hst2
      have HGOOD:=Lib.hid (hgood.out.ext hext2)
      have hwh:w.heap.size<h:=Nat.lt_of_lt_of_le HWR.out hh.out
      have HE3:=Lib.hid (HEb.out.grown HX.out hgr2 hwh)
      clear hst2 hext2 hgr2 HC hc1 hc2 hwh
      by_cases h18:18<z
      ·have d:decide ((18:Int)<(z:Int))=true:=decide_eq_true (by omega)
       have HFF:Hid (r6 T=false):=by
        unfold Hid;rw[HR.out]
        exact all_of_take _ T.dec (j+1) (by rw[HS2.out];simp;omega)
       go_wp2
       go_ret
       rw[HFF.out]
       exact⟨rfl,HE3.out.bel⟩
      ·have d:decide ((18:Int)<(z:Int))=false:=decide_eq_false (by omega)
       have HT2:Hid ((T.dec.take (j+1)).all (fun m=>decide (siz T.dec m.1≤18))=true):=by unfold Hid;rw[HS2.out];simp;omega
       go_wp2
       go_roundw
       case rel=>exact⟨j+1,S2,by omega,by go_num,HST,HGOOD,HT2,HE3⟩
       case measure=>simp[intOf];omega
     ·obtain rfl:j=k:=by omega
      have HFF:Hid (r6 T=true):=by
       unfold Hid;rw[HR.out]
       have:=hall2.out
       rwa[List.take_of_length_le (Nat.le_of_eq HN.out)]at this
      go_wp2
      go_ret
      rw[HFF.out]
      exact⟨rfl,he2.out.bel⟩
def notHas (T:Tb) (c:Int):Bool := !hasM T.dec c
theorem exc1_any (c : Int) (g : Nat) (x : TV) (T : Tb) (w : World) (hb : BoxT w g x) (hx : TabV w x T) (ha : ascI 0 1114111 (froms T.dec) = true) :
  Calls Tryz.prog 212 #[.int .i64 c,.pointer (some ⟨g,0,none⟩)] w (Gives (.bool (notHas T c)) w):=by
 obtain⟨B,hB⟩:∃B,Hid (hasM T.dec c=B):=⟨_,rfl⟩
 have HN:Hid (notHas T c = !B):=by unfold Hid notHas;rw[hB.out]
 have HX:=Lib.hid hx
 have HA:=Lib.hid ha
 obtain⟨⟨k0,k1,k2,k3,k4,k5⟩,⟨k6,k7,k8,k9,k10,k11⟩⟩:=hb
 clear hx ha
 go_enter Tryz.func212,Tryz.ntmps212
 go_wp2_with fail
 refine(hasDecomp_at x T c B _ HX.out HA.out hB).mono ?_
 rintro e w1 ⟨rfl,hb1⟩
 have HB1:=Lib.hid hb1
 clear hb1
 go_wp2
 go_ret
 exact⟨by rw[HN.out];rfl,HB1.out⟩
theorem testExc (g:Nat) (x:TV) (T:Tb) (w:World) (hb:BoxT w g x) (hx:TabV w x T) (ha:ascI 0 1114111 (froms T.dec)=true):TestI 212 #[.pointer (some ⟨g,0,none⟩)] (notHas T) w :=
 fun c W hW=>exc1_any c g x T W (hb.below hW) (hx.below hW) ha
theorem entersExc:∀args w,(callFunc 212 args).run Tryz.prog w = .ok (.enter 212 args) w:=enters_of Tryz.func212 (by kernel_rfl) rfl
theorem exclDecomps_any (x : TV) (T : Tb) (w : World) (hx : TabV w x T) (ha : ascI 0 1114111 (froms T.dec) = true) :
  Calls Tryz.prog 146 #[x.agg] w (Gives (.bool (r7 T)) w):=by
 have HE:=Lib.hid (Env.new hx)
 have HA:=Lib.hid ha
 obtain⟨B,hB⟩:∃B,Hid (T.exc.any (notHas T)=B):=⟨_,rfl⟩
 have HR:Hid (r7 T = !B):=by
  unfold Hid;rw[←not_any hB.out,r7];congr 1;funext c;simp[notHas]
 clear hx ha
 simp only[TV.agg]
 go_enter Tryz.func146,Tryz.ntmps146
 go_wp2_with fail
 refine(conI_any x.a10 T.exc _ _ (notHas T) B _ HE.out.tab.exc (testExc w.heap.size x T _ HE.out.box HE.out.tab HA.out) entersExc hB).mono ?_
 rintro e w1 ⟨rfl,hb⟩
 have HE1:=Lib.hid (HE.out.step hb)
 clear hb
 go_wp2
 go_ret
 exact⟨by rw[HR.out];rfl,HE1.out.bel⟩
theorem ignorable_at (x : TV) (T : Tb) (c : Int) (B : Bool) (w : World) (hx : TabV w x T) (ha : ascB 0 T.ign = true) (hB : Hid (ignT T c = B)) :
  Calls Tryz.prog 260 #[x.agg,.int .i64 c] w (Gives (.bool B) w):=by
 have HE:=Lib.hid (Env.new hx)
 have HA:=Lib.hid ha
 clear hx ha
 simp only[TV.agg]
 go_enter Tryz.func260,Tryz.ntmps260
 go_wp2_with fail
 refine(findSpan_any x.a6 T.ign c _ HE.out.tab.ign HA.out).mono ?_
 rintro e w1 ⟨i,rfl,hi,_,hb⟩
 have HE1:=Lib.hid (HE.out.step hb)
 clear hb
 go_wp2
 go_ret
 exact⟨by rw[←hB.out];rfl,HE1.out.bel⟩
set_option maxHeartbeats 1000000 in
theorem plain_at (x : TV) (T : Tb) (c : Int) (B : Bool) (w : World) (hx : TabV w x T) (ha : ascI 0 1114111 (froms T.dec) = true) (hi : ascB 0 T.ign = true) (hB : Hid (plain T c = B)) :
  Calls Tryz.prog 215 #[x.agg,.int .i64 c] w (Gives (.bool B) w):=by
 have HE:=Lib.hid (Env.new hx)
 have HA:=Lib.hid ha
 have HI:=Lib.hid hi
 obtain⟨B1,hB1⟩:∃B,Hid (hasM T.dec c=B):=⟨_,rfl⟩
 obtain⟨B2,hB2⟩:∃B,Hid (ignT T c=B):=⟨_,rfl⟩
 have HBB:Hid (B=(!B1 && !B2)):=by unfold Hid;rw[←hB.out,plain,hB1.out,hB2.out]
 clear hx ha hi
 simp only[TV.agg]
 go_enter Tryz.func215,Tryz.ntmps215
 go_wp2_with fail
 refine(hasDecomp_at x T c B1 _ HE.out.tab HA.out hB1).mono ?_
 rintro e w1 ⟨rfl,hb⟩
 have HE1:=Lib.hid (HE.out.step hb)
 clear hb
 cases B1 with
 | true =>
  go_wp2
  go_ret
  exact⟨by rw[HBB.out];rfl,HE1.out.bel⟩
 | false =>
  obtain⟨⟨k0,k1,k2,k3,k4,k5⟩,⟨k6,k7,k8,k9,k10,k11⟩⟩:=HE1.out.box
  go_wp2_with fail
  refine(ignorable_at x T c B2 _ HE1.out.tab HI.out hB2).mono ?_
  rintro e w2 ⟨rfl,hb⟩
  have HE2:=Lib.hid (HE1.out.step hb)
  clear hb k0 k1 k2 k3 k4 k5 k6 k7 k8 k9 k10 k11
  go_wp2
  go_ret
  exact⟨by rw[HBB.out];rfl,HE2.out.bel⟩
def proC (T:Tb) (c:Int):Bool := !hasM T.pro c&&(!sylB c&&plain T c)
theorem proOk_parts {T:Tb} {f:Int} {y:List Int}:proOk T (f,y)=(plain T f&&y.all (proC T)):=rfl
set_option maxRecDepth 100000 in
set_option maxHeartbeats 8000000 in
theorem protos_any (x : TV) (T : Tb) (w : World) (hx : TabV w x T) (hd : ascI 0 1114111 (froms T.dec) = true) (hp : ascI 0 1114111 (froms T.pro) = true) (ha : ascB 0 T.ign = true) :
  Calls Tryz.prog 148 #[x.agg] w (Gives (.bool (r9 T)) w):=by
 obtain⟨a0,a1,a2,a3,a4,a5,a6,a7,a8,a9,a10,a11⟩:=x
 obtain⟨pm,cm,hm,hmin,hml⟩:=hx.pro
 obtain⟨n,hn⟩:∃n,T.pro.length=n:=⟨_,rfl⟩
 rw[hn]at hm hml
 simp only at hm
 subst hm
 have HE:=Lib.hid (Env.new hx)
 have HA:=Lib.hid ha
 have HD:=Lib.hid hd
 have HP:=Lib.hid hp
 have HN:=Lib.hid hn
 have HMI:=Lib.hid hmin
 clear hx ha hd hp hn hmin
 simp only[TV.agg]
 go_enter Tryz.func148,Tryz.ntmps148
 go_wp2
 go_loopw [12] (fun i wr=>∃k:Nat,k≤n∧i = .int .i64 k∧Hid ((T.pro.take k).all (proOk T)=true)∧Hid (Env w ⟨a0,a1,a2,a3,a4,a5,a6,a7,a8,a9,a10,.slice pm n cm⟩ T wr)) (fun i _=>n-(intOf i).toNat)
 case atStart=>exact⟨0,Nat.zero_le _,rfl,by simp[Hid],HE⟩
 case round =>
  obtain⟨k,hk,rfl,hall,he⟩:=hrel
  by_cases hlt:k<n
  ·have hkl:k<T.pro.length:=by rw[HN.out];exact hlt
   obtain⟨b,off,v,rfl,hc1,hc2,qa,cq,rfl,hi2,hm2⟩:=(HMI.out.below he.out.bel) k hkl
   have hsn:=all_take_snoc (proOk T) T.pro k mp0 hkl
   rw[hall.out,Bool.true_and]at hsn
   have hno:proOk T (T.pro.getD k mp0)=false→r9 T=false:=fun h=>all_of_take _ T.pro (k+1) (by rw[hsn,h])
   obtain⟨⟨f,y⟩,hs⟩:∃s,T.pro.getD k mp0=s:=⟨_,rfl⟩
   rw[hs]at hc1 hc2 hsn hno hi2 hm2
   simp only at hc1 hc2 hsn hno hi2 hm2
   rw[proOk_parts]at hsn hno
   obtain⟨m,hm3⟩:∃m,y.length=m:=⟨_,rfl⟩
   rw[hm3]at hc2 hm2
   have HSN:=Lib.hid hsn
   have HNO:=Lib.hid hno
   have HYL:=Lib.hid hm3
   have hb0:Below wr.heap.size wr (wr.alloc (.cells #[.int .i64 f,.slice qa m cq] 73)):=(Below.refl _ _).alloc (Nat.le_refl _) _
   have HEb:=Lib.hid (he.out.step hb0)
   have HBM:=Lib.hid (BoxM.new wr f (.slice qa m cq) 73)
   have HY1:=Lib.hid (RowIn.alloc hi2 (.cells #[.int .i64 f,.slice qa m cq] 73))
   obtain⟨z,hz⟩:∃z,Hid (plain T f=z):=⟨_,rfl⟩
   clear hs hsn hno hi2 hm3 hb0
   have hbx:=HEb.out.box
   simp only[BoxT]at hbx
   obtain⟨⟨k0,k1,k2,k3,k4,k5⟩,⟨k6,k7,k8,k9,k10,k11⟩⟩:=hbx
   go_wp2_with fail
   refine(plain_at _ T f z _ HEb.out.tab HD.out HA.out hz).mono ?_
   rintro e w2 ⟨rfl,hb2⟩
   have HE2:=Lib.hid (HEb.out.step hb2)
   have HBM2:=Lib.hid (HBM.out.below hb2)
   have HY2:=Lib.hid (HY1.out.below hb2)
   clear hb2 k0 k1 k2 k3 k4 k5 k6 k7 k8 k9 k10 k11 hc1 hc2
   cases z with
   | false =>
    have HFF:Hid (r9 T=false):=HNO.out (by rw[hz.out];rfl)
    go_wp2
    go_ret
    rw[HFF.out]
    exact⟨rfl,HE2.out.bel⟩
   | true =>
    have hbm:=HBM2.out
    simp only[BoxM]at hbm
    obtain⟨c1,c2⟩:=hbm
    go_wp2
    obtain⟨wo,rfl⟩:∃wo:World,wo=w2:=⟨_,rfl⟩
    go_loopw [24] (fun i wr2=>∃j:Nat,j≤m∧i = .int .i64 j∧Hid ((y.take j).all (proC T)=true)∧Hid (Env w ⟨a0,a1,a2,a3,a4,a5,a6,a7,a8,a9,a10,.slice (some ⟨b,off,none⟩) n cm⟩ T wr2)∧Hid (IntsIn wr2 qa y)) (fun i _=>m-(intOf i).toNat)
    case atStart=>exact⟨0,Nat.zero_le _,rfl,by simp[Hid],HE2,HY2⟩
    case round =>
     obtain⟨j,hj,rfl,hall2,he2,hy2⟩:=hrel
     clear c1 c2
     by_cases hlt2:j<m
     ·have hjl:j<y.length:=by rw[HYL.out];exact hlt2
      obtain⟨b3,off3,rfl,hc3⟩:=hy2.out j hjl
      have hs2:=all_take_snoc (proC T) y j 0 hjl
      rw[hall2.out,Bool.true_and]at hs2
      obtain⟨c,hcc⟩:∃c,y.getD j 0=c:=⟨_,rfl⟩
      rw[hcc]at hc3 hs2
      obtain⟨B1,hB1⟩:∃B,Hid (hasM T.pro c=B):=⟨_,rfl⟩
      obtain⟨B2,hB2⟩:∃B,Hid (sylB c=B):=⟨_,rfl⟩
      obtain⟨B3,hB3⟩:∃B,Hid (plain T c=B):=⟨_,rfl⟩
      rw[proC,hB1.out,hB2.out,hB3.out]at hs2
      have HS2:=Lib.hid hs2
      have HNOC:Hid ((!B1&&(!B2&&B3))=false→r9 T=false):=fun h=>HNO.out (by
       rw[all_of_take (proC T) y (j+1) (by rw[HS2.out,h]),Bool.and_false])
      have hbx:=he2.out.box
      simp only[BoxT]at hbx
      obtain⟨_,⟨_,_,_,_,_,k11⟩⟩:=hbx
      clear hcc hs2
      go_wp2_with fail
      refine(findMp_any _ T.pro c _ he2.out.tab.pro HP.out).mono ?_
      rintro e w3 ⟨i3,rfl,_,_,hb3⟩
      have HE3:=Lib.hid (he2.out.step hb3)
      have HY3:=Lib.hid (hy2.out.below hb3)
      rw[hB1.out]
      clear hb3 k11 hc3
      cases B1 with
      | true =>
       have HFF:=Lib.hid (HNOC.out rfl)
       go_wp2
       go_ret
       rw[HFF.out]
       exact⟨rfl,HE3.out.bel⟩
      | false =>
       have hsy:=syl_any c w3
       rw[hB2.out]at hsy
       have HSY:=Lib.hid hsy
       clear hsy
       cases B2 with
       | true =>
        have HFF:=Lib.hid (HNOC.out rfl)
        go_wp2_with (go_at_call 217;refine HSY.out.mono ?_;rintro e w' ⟨rfl,rfl⟩)
        go_ret
        rw[HFF.out]
        exact⟨rfl,HE3.out.bel⟩
       | false =>
        have hbx:=HE3.out.box
        simp only[BoxT]at hbx
        obtain⟨⟨k0,k1,k2,k3,k4,k5⟩,⟨k6,k7,k8,k9,k10,k11⟩⟩:=hbx
        go_wp2_with (go_at_call 217;refine HSY.out.mono ?_;rintro e w' ⟨rfl,rfl⟩)
        refine(plain_at _ T c B3 _ HE3.out.tab HD.out HA.out hB3).mono ?_
        rintro e w4 ⟨rfl,hb4⟩
        have HE4:=Lib.hid (HE3.out.step hb4)
        have HY4:=Lib.hid (HY3.out.below hb4)
        clear hb4 k0 k1 k2 k3 k4 k5 k6 k7 k8 k9 k10 k11
        cases B3 with
        | false =>
         have HFF:=Lib.hid (HNOC.out rfl)
         go_wp2
         go_ret
         rw[HFF.out]
         exact⟨rfl,HE4.out.bel⟩
        | true =>
         have HT:Hid ((y.take (j+1)).all (proC T)=true):=HS2.out
         go_wp2
         go_roundw
         case rel=>exact⟨j+1,by omega,by go_num,HT,HE4,HY4⟩
         case measure=>simp[intOf];omega
     ·obtain rfl:j=m:=by omega
      have HT:Hid ((T.pro.take (k+1)).all (proOk T)=true):=by
       have h:=hall2.out
       rw[List.take_of_length_le (Nat.le_of_eq HYL.out)]at h
       unfold Hid;rw[HSN.out,hz.out,h];rfl
      go_wp2
      go_roundw
      case rel=>exact⟨k+1,by omega,by go_num,HT,he2⟩
      case measure=>simp[intOf];omega
  ·obtain rfl:k=n:=by omega
   have HT:Hid (r9 T=true):=by
    have:=hall.out
    rwa[List.take_of_length_le (Nat.le_of_eq HN.out)]at this
   go_wp2
   go_ret
   rw[HT.out]
   exact⟨rfl,he.out.bel⟩
end Go.Proofs.YtblcoicaeeiojaaGreatDoor
