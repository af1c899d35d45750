/- compose: hasDecomp, isComposable, firstOfFull, isBlocked, pa -/
import Derived.Test.YtblcoicaeeiojaaGreatDoorSSiPmCmpN
import Derived.Test.YtblcoicaeeiojaaGreatDoorSSiPmDcmC
import Derived.Test.YtblcoicaeeiojaaGreatDoorSSiPmBidFact
import Derived.Deep.RegionHeld3
import Derived.StillTailTactics
set_option linter.unusedSimpArgs false
set_option linter.unusedVariables false
namespace Go.Proofs.YtblcoicaeeiojaaGreatDoor
open Go.RowKit
theorem cmpH0 {T:Tb} (h:checkT T=0):CmpH T:=by
 obtain⟨h1,h2,h3,h4,h6⟩:=check_rules h
 exact cmpH_of h1 h2 h3 h4 h6
set_option maxRecDepth 100000 in
set_option maxHeartbeats 2000000 in
theorem chas_at (x : TV) (T : Tb) (c : Int) (B : Bool) (w : World) (hx : TabV w x T) (ha : ascI 0 1114111 (froms T.dec) = true) (hB : Hid (decide (findM T.dec c ≠ []) = B)) :
  Calls Tryz.prog 269 #[x.agg,.int .i64 c] w (Gives (.bool B) w):=by
 obtain⟨L,hL⟩:∃L,Hid (findM T.dec c=L):=⟨_,rfl⟩
 have HE:=Lib.hid (Env.new hx)
 have HA:=Lib.hid ha
 clear hx ha
 simp only[TV.agg]
 go_enter Tryz.func269,Tryz.ntmps269
 obtain⟨⟨k0,k1,k2,k3,k4,k5⟩,⟨k6,k7,k8,k9,k10,k11⟩⟩:=HE.out.box.load
 go_wp2_with fail
 refine(tdecomp_own x T c L _ HE.out.tab HA.out hL).mono ?_
 rintro e w1 ⟨v1,rfl,ho1,hb⟩
 obtain⟨p1,c1,rfl,hi1⟩:=ho1.inn
 replace HE:=Lib.hid (HE.out.step hb)
 obtain⟨n,hn⟩:∃n,L.length=n:=⟨_,rfl⟩
 rw[hn]
 have HN:=Lib.hid hn
 clear ho1 hi1 hb hn k0 k1 k2 k3 k4 k5 k6 k7 k8 k9 k10 k11
 by_cases h0:0<n
 ·have d0:decide ((0:Int)<(n:Int))=true:=decide_eq_true (by omega)
  have HBB:Hid (B=true):=by unfold Hid;rw[←hB.out,hL.out];exact decide_eq_true (fun e=>by have:=HN.out;rw[e]at this;simp at this;omega)
  go_wp2
  go_ret
  rw[HBB.out]
  exact⟨rfl,HE.out.bel⟩
 ·obtain rfl:n=0:=by omega
  have HBB:Hid (B=false):=by unfold Hid;rw[←hB.out,hL.out,List.eq_nil_of_length_eq_zero HN.out];rfl
  go_wp2
  go_ret
  rw[HBB.out]
  exact⟨rfl,HE.out.bel⟩
set_option maxRecDepth 100000 in
set_option maxHeartbeats 8000000 in
theorem ccomp_short (x : TV) (T : Tb) (f : Int) (w : World) (hx : TabV w x T) (ha : ascI 0 1114111 (froms T.dec) = true) (hy : (findM T.dec f).length ≠ 2) :
  Calls Tryz.prog 227 #[x.agg,.int .i64 f] w (Gives (.bool (compT T f)) w):=by
 have HE:=Lib.hid (Env.new hx)
 have HC:Hid (compT T f=false):=compT_not hy
 have HA:=Lib.hid ha
 obtain⟨L,hL⟩:∃L,Hid (findM T.dec f=L):=⟨_,rfl⟩
 rw[hL.out]at hy
 clear hx ha
 simp only[TV.agg]
 go_enter Tryz.func227,Tryz.ntmps227
 obtain⟨⟨k0,k1,k2,k3,k4,k5⟩,⟨k6,k7,k8,k9,k10,k11⟩⟩:=HE.out.box.load
 go_wp2_with fail
 refine(tdecomp_own x T f L _ HE.out.tab HA.out hL).mono ?_
 rintro e w1 ⟨v1,rfl,ho1,hb⟩
 obtain⟨p1,c1,rfl,hi1⟩:=ho1.inn
 replace HE:=Lib.hid (HE.out.step hb)
 obtain⟨n,hn⟩:∃n,L.length=n:=⟨_,rfl⟩
 rw[hn]at hy ⊢
 have hd:((n:Int) !=2)=true:=by simp;omega
 clear ho1 hi1 hb hn k0 k1 k2 k3 k4 k5 k6 k7 k8 k9 k10 k11
 go_wp2
 go_ret
 rw[HC.out]
 exact⟨rfl,HE.out.bel⟩
set_option maxRecDepth 100000 in
set_option maxHeartbeats 16000000 in
theorem ccomp_any (T : Tb) (h : checkT T = 0) (k : Nat) : ∀ (x : TV) (f : Int) (w : World), Dp T.dec k f → TabV w x T →
  Calls Tryz.prog 227 #[x.agg,.int .i64 f] w (Gives (.bool (compT T f)) w):=by
 have HH:=Lib.hid (cmpH0 h)
 have HV:=Lib.hid h
 clear h
 induction k with
 | zero =>
  intro x f w hd hx
  exact ccomp_short x T f w hx HH.out.dec (by rw[show findM T.dec f=[]from hd];simp)
 | succ k ih0 =>
  have IH:=Lib.hid ih0
  clear ih0
  intro x f w hd hx
  by_cases hy:(findM T.dec f).length=2
  ·obtain⟨a,b,hf⟩:∃a b,findM T.dec f=[a,b]:=by
    match findM T.dec f,hy with
    | [a,b],_=>exact⟨a,b,rfl⟩
   have hcomp:=compT_two (HH.out.dp f) hf
   have hda:Dp T.dec k a:=hd a (by rw[hf];simp)
   obtain⟨C,hC⟩:∃C,compT T f=C:=⟨_,rfl⟩
   obtain⟨BX,hBX⟩:∃B,Hid (excT T f=B):=⟨_,rfl⟩
   obtain⟨zf,hzf⟩:∃z,Hid (clsT T f=z):=⟨_,rfl⟩
   obtain⟨za,hza⟩:∃z,Hid (clsT T a=z):=⟨_,rfl⟩
   obtain⟨zb,hzb⟩:∃z,Hid (clsT T b=z):=⟨_,rfl⟩
   obtain⟨Bb,hBb⟩:∃B,Hid (decide (findM T.dec b≠[])=B):=⟨_,rfl⟩
   obtain⟨Ba,hBa⟩:∃B,Hid (decide (findM T.dec a≠[])=B):=⟨_,rfl⟩
   obtain⟨Ca,hCa⟩:∃B,Hid (compT T a=B):=⟨_,rfl⟩
   obtain⟨zl,hzl⟩:∃z,Hid (clsT T (lastF T.dec a)=z):=⟨_,rfl⟩
   rw[hBX.out,hzf.out,hza.out,hzb.out,has_find HH.out b,has_find HH.out a,hBb.out,hBa.out,hCa.out,hzl.out,hC]at hcomp
   rw[hC]
   have hbp:0≤zb:=by rw[←hzb.out];exact HH.out.pos b
   have HCOMP:=Lib.hid hcomp
   have HDA:=Lib.hid hda
   have HF:Hid (findM T.dec f=[a,b]):=hf
   have HE:=Lib.hid (Env.new hx)
   clear hcomp hC hda hd hx hf hy
   simp only[TV.agg]
   go_enter Tryz.func227,Tryz.ntmps227
   obtain⟨⟨k0,k1,k2,k3,k4,k5⟩,⟨k6,k7,k8,k9,k10,k11⟩⟩:=HE.out.box.load
   go_wp2_with fail
   refine(tdecomp_own x T f [a,b] _ HE.out.tab HH.out.dec HF).mono ?_
   rintro e w1 ⟨v1,rfl,ho1,hb⟩
   obtain⟨p1,c1,rfl,hi1⟩:=ho1.inn
   obtain⟨b3,off3,rfl,q0⟩:=hi1 0 (by simp)
   obtain⟨b3',off3',e3,q1⟩:=hi1 1 (by simp)
   injection e3 with e3
   injection e3 with e4 e5
   subst e4;subst e5
   simp only[List.getD_cons_zero,List.getD_cons_succ,Nat.add_zero,List.length_cons,List.length_nil,Nat.zero_add]at q0 q1 ⊢
   replace HE:=Lib.hid (HE.out.step hb)
   have HQ:=Lib.hid (show w1.cell? ⟨b3,off3,none⟩=some (.int .i64 a)∧w1.cell? ⟨b3,off3+1,none⟩=some (.int .i64 b) from⟨q0,q1⟩)
   clear ho1 hi1 hb q0 q1 k0 k1 k2 k3 k4 k5 k6 k7 k8 k9 k10 k11
   obtain⟨⟨k0,k1,k2,k3,k4,k5⟩,⟨k6,k7,k8,k9,k10,k11⟩⟩:=HE.out.box.load
   go_wp2_with fail
   refine(excluded_at _ T f BX _ HE.out.tab HH.out.exc hBX).mono ?_
   rintro e w2 ⟨rfl,hb⟩
   replace HE:=Lib.hid (HE.out.step hb)
   replace HQ:=Lib.hid (two_below HQ.out hb)
   clear hb k0 k1 k2 k3 k4 k5 k6 k7 k8 k9 k10 k11
   cases BX with
   | true =>
    go_wp2
    go_ret
    exact⟨by rw[HCOMP.out];rfl,HE.out.bel⟩
   | false =>
    obtain⟨r0,r1⟩:=HQ.out
    go_wp2
    go_quiet (fail)
    generalize hwq:World.drewN w2 _=w3
    have hq:Below w2.heap.size w2 w3:=by rw[←hwq];exact drew_ref _ _
    replace HE:=Lib.hid (HE.out.step hq)
    clear hwq hq r0 r1 HQ
    obtain⟨⟨k0,k1,k2,k3,k4,k5⟩,⟨k6,k7,k8,k9,k10,k11⟩⟩:=HE.out.box.load
    go_wp2_with fail
    refine(class_at _ T f zf _ HE.out.tab HH.out.cls hzf).mono ?_
    rintro e w4 ⟨rfl,hb⟩
    replace HE:=Lib.hid (HE.out.step hb)
    clear hb k0 k1 k2 k3 k4 k5 k6 k7 k8 k9 k10 k11
    by_cases hz1:zf=0
    ·have d1:(zf !=0)=false:=by simp[hz1]
     have HZ1:=Lib.hid hz1
     clear hz1
     obtain⟨⟨k0,k1,k2,k3,k4,k5⟩,⟨k6,k7,k8,k9,k10,k11⟩⟩:=HE.out.box.load
     go_wp2_with fail
     refine(class_at _ T a za _ HE.out.tab HH.out.cls hza).mono ?_
     rintro e w5 ⟨rfl,hb⟩
     replace HE:=Lib.hid (HE.out.step hb)
     clear hb k0 k1 k2 k3 k4 k5 k6 k7 k8 k9 k10 k11
     by_cases hz2:za=0
     ·have d2:(za !=0)=false:=by simp[hz2]
      have HZ2:=Lib.hid hz2
      clear hz2
      obtain⟨⟨k0,k1,k2,k3,k4,k5⟩,⟨k6,k7,k8,k9,k10,k11⟩⟩:=HE.out.box.load
      go_wp2_with fail
      refine(chas_at _ T b Bb _ HE.out.tab HH.out.dec hBb).mono ?_
      rintro e w6 ⟨rfl,hb⟩
      replace HE:=Lib.hid (HE.out.step hb)
      clear hb k0 k1 k2 k3 k4 k5 k6 k7 k8 k9 k10 k11
      cases Bb with
      | true =>
       go_wp2
       go_ret
       exact⟨by rw[HCOMP.out];simp,HE.out.bel⟩
      | false =>
       obtain⟨⟨k0,k1,k2,k3,k4,k5⟩,⟨k6,k7,k8,k9,k10,k11⟩⟩:=HE.out.box.load
       go_wp2_with fail
       refine(chas_at _ T a Ba _ HE.out.tab HH.out.dec hBa).mono ?_
       rintro e w7 ⟨rfl,hb⟩
       replace HE:=Lib.hid (HE.out.step hb)
       clear hb k0 k1 k2 k3 k4 k5 k6 k7 k8 k9 k10 k11
       cases Ba with
       | false =>
        have HCT:Hid (C=true):=by
         have hfa:findM T.dec a=[]:=by
          have:=hBa.out
          simp only[decide_eq_false_iff_not,ne_eq,Classical.not_not]at this
          exact this
         have hl:zl=za:=by rw[←hzl.out,lastF_nil hfa,hza.out]
         unfold Hid
         rw[HCOMP.out,HZ1.out,HZ2.out,hl,HZ2.out]
         simp;omega
        go_wp2
        go_ret
        exact⟨by rw[HCT.out];rfl,HE.out.bel⟩
       | true =>
        obtain⟨⟨k0,k1,k2,k3,k4,k5⟩,⟨k6,k7,k8,k9,k10,k11⟩⟩:=HE.out.box.load
        go_wp2_with fail
        have hih:=IH.out x a _ HDA.out HE.out.tab
        rw[hCa.out]at hih
        refine hih.mono ?_
        rintro e w8 ⟨rfl,hb⟩
        replace HE:=Lib.hid (HE.out.step hb)
        clear hb hih k0 k1 k2 k3 k4 k5 k6 k7 k8 k9 k10 k11
        cases Ca with
        | false =>
         have HCT:Hid (C=false):=by unfold Hid;rw[HCOMP.out];simp
         go_wp2
         go_ret
         exact⟨by rw[HCT.out];rfl,HE.out.bel⟩
        | true =>
         obtain⟨e0,e1,hfa,_,_,he1,_⟩:=comp_two HV.out hCa.out
         have hlast:=lastF_two (HH.out.dp a) hfa he1.2.1
         have HZL:Hid (clsT T e1=zl):=by unfold Hid;rw[←hlast];exact hzl.out
         have HFA:Hid (findM T.dec a=[e0,e1]):=hfa
         have HCX:Hid (C=(decide (zb=0)||decide (zl≤zb))):=by
          unfold Hid;rw[HCOMP.out,HZ1.out,HZ2.out];simp
         clear hfa he1 hlast
         go_upto_region 10 with(fail)
         go_cut [8,9] (fun u v wx=>u = .int .i64 e1∧v = .int .i64 zb∧Hid (Env w x T wx))
         case first =>
          have hed:=HE.out.step (drew_one w8)
          have HED:=Lib.hid hed
          clear hed
          obtain⟨⟨k0,k1,k2,k3,k4,k5⟩,⟨k6,k7,k8,k9,k10,k11⟩⟩:=HED.out.box.load
          go_region_with (first
           | (go_at_call 266;(with_reducible refine(tdecomp_own x T a [e0,e1] _ HED.out.tab HH.out.dec HFA).mono ?_);rintro e w9 ⟨v9,rfl,ho9,hb3⟩;obtain⟨p9,c9,e9,hi9⟩:=ho9.inn;subst e9;obtain⟨b9,off9,e9,s9⟩:=hi9 1 (by simp);subst e9;simp only[List.getD_cons_zero,List.getD_cons_succ,List.length_cons,List.length_nil,Nat.zero_add]at s9 ⊢;obtain⟨⟨m0,m1,m2,m3,m4,m5⟩,⟨m6,m7,m8,m9,m10,m11⟩⟩:=(HED.out.step hb3).box.load)
           | (go_at_call 155;(with_reducible refine(class_at x T b zb _ HED.out.tab HH.out.cls hzb).mono ?_);rintro e w10 ⟨rfl,hb4⟩;obtain⟨⟨m0,m1,m2,m3,m4,m5⟩,⟨m6,m7,m8,m9,m10,m11⟩⟩:=(HED.out.step hb4).box.load)
           | (go_at_call 155;(with_reducible refine(class_at x T b zb _ (HED.out.step hb3).tab HH.out.cls hzb).mono ?_);rintro e w10 ⟨rfl,hb4⟩;have s10:=(hb4.cell (World.block_lt_of_cell? _ _ s9)).trans s9)
           | (go_at_call 266;(with_reducible refine(tdecomp_own x T a [e0,e1] _ (HED.out.step hb4).tab HH.out.dec HFA).mono ?_);rintro e w9 ⟨v9,rfl,ho9,hb3⟩;obtain⟨p9,c9,e9,hi9⟩:=ho9.inn;subst e9;obtain⟨b9,off9,e9,s9⟩:=hi9 1 (by simp);subst e9;simp only[List.getD_cons_zero,List.getD_cons_succ,List.length_cons,List.length_nil,Nat.zero_add]at s9 ⊢)
           | fail)
          all_goals
           first
            | (have hf := (HED.out.step hb3).step hb4
               try (go_wp2_with fail)
               go_meet
               exact⟨rfl,rfl,hf⟩)
            | (have hf := (HED.out.step hb4).step hb3
               try (go_wp2_with fail)
               go_meet
               exact⟨rfl,rfl,hf⟩)
            | fail
         case rest =>
          obtain⟨rfl,rfl,HE⟩:=hcut
          generalize wc=w9 at HE ⊢
          by_cases hzb0:zb=0
          ·have d3:(zb==0)=true:=by simp[hzb0]
           have HCT:Hid (C=true):=by unfold Hid;rw[HCX.out,hzb0];simp
           clear hzb0
           go_wp2
           go_ret
           exact⟨by rw[HCT.out];rfl,HE.out.bel⟩
          ·have d3:(zb==0)=false:=by simp[hzb0]
           have HCT:Hid (C=decide (zl≤zb)):=by unfold Hid;rw[HCX.out,decide_eq_false hzb0];simp
           clear hzb0
           obtain⟨⟨k0,k1,k2,k3,k4,k5⟩,⟨k6,k7,k8,k9,k10,k11⟩⟩:=HE.out.box.load
           go_wp2_with fail
           refine(class_at _ T e1 zl _ HE.out.tab HH.out.cls HZL).mono ?_
           rintro e w11 ⟨rfl,hb⟩
           replace HE:=Lib.hid (HE.out.step hb)
           clear hb k0 k1 k2 k3 k4 k5 k6 k7 k8 k9 k10 k11
           go_wp2
           go_ret
           exact⟨by rw[HCT.out];rfl,HE.out.bel⟩
     ·have d2:(za !=0)=true:=by simp[hz2]
      have HCT:Hid (C=false):=by unfold Hid;rw[HCOMP.out,decide_eq_false hz2];simp
      clear hz2
      go_wp2
      go_ret
      exact⟨by rw[HCT.out];rfl,HE.out.bel⟩
    ·have d1:(zf !=0)=true:=by simp[hz1]
     have HCT:Hid (C=false):=by unfold Hid;rw[HCOMP.out,decide_eq_false hz1];simp
     clear hz1
     go_wp2
     go_ret
     exact⟨by rw[HCT.out];rfl,HE.out.bel⟩
  ·exact ccomp_short x T f w hx HH.out.dec hy
theorem ccomp_at (x : TV) (T : Tb) (c : Int) (B : Bool) (w : World) (hx : TabV w x T) (h : checkT T = 0) (hB : Hid (compT T c = B)) :
  Calls Tryz.prog 227 #[x.agg,.int .i64 c] w (Gives (.bool B) w):=hB.out▸ccomp_any T h 256 x c w (dec_dp h c) hx
end Go.Proofs.YtblcoicaeeiojaaGreatDoor
namespace Go.Proofs.YtblcoicaeeiojaaGreatDoor
open Go.RowKit Go.Maps
theorem owns_ne {P:Program} {k:TypeId} {R:Value→Option (DataW Unit × List MemPlace)} {w:World} {b n:Nat} {D:DataW Unit} {p:Addr} {v:Value} (h:w.ownsMap P k R b n D) (hc:w.cell? p=some v):p.block≠b:=by
 obtain⟨es,clock,hb,_⟩:=h
 intro e
 unfold World.cell? at hc
 rw[e,hb]at hc
 simp at hc
structure KSt (w0:World) (x:TV) (T:Tb) (k:Nat) (w:World):Prop where
 env:Env w0 x T w
 m1:w.ownsMap Tryz.prog 161 (plainElem Tryz.prog 3) (w0.heap.size+2) k (wholeD T (T.dec.take k))
 m2:w.ownsMap Tryz.prog 3 (plainElem Tryz.prog 4) (w0.heap.size+3) k (secD T (T.dec.take k))
 kn:w.heap[w0.heap.size+4]? = some (.cells #[.map (some (w0.heap.size+2)),.map (some (w0.heap.size+3))] 150 (0,0))
 rs:w.heap[w0.heap.size+1]? = some (.cells #[.map none,.map none] 150 (0,0))
theorem KSt.step {w0 w w':World} {x:TV} {T:Tb} {k:Nat} (h:KSt w0 x T k w) (hb:Below w.heap.size w w'):KSt w0 x T k w':=by
 have l1:=(Array.getElem?_eq_some_iff.1 h.kn).1
 have l2:=(Array.getElem?_eq_some_iff.1 h.rs).1
 exact⟨h.env.step hb,owns_below h.m1 hb,owns_below h.m2 hb,(hb.block _ l1).trans h.kn,(hb.block _ l2).trans h.rs⟩
theorem KSt.cells {w0 w : World} {x : TV} {T : Tb} {k : Nat} (h : KSt w0 x T k w) :
  w.cell? ⟨w0.heap.size+4,0,none⟩=some (.map (some (w0.heap.size+2)))∧w.cell? ⟨w0.heap.size+4,1,none⟩=some (.map (some (w0.heap.size+3))) :=
 ⟨cell_of_row w _ 0 _ _ (0,0) h.kn,cell_of_row w _ 1 _ _ (0,0) h.kn⟩
structure KMid (w0:World) (x:TV) (T:Tb) (k:Nat) (b:Bool) (w:World):Prop where
 env:Env w0 x T w
 m1:w.ownsMap Tryz.prog 161 (plainElem Tryz.prog 3) (w0.heap.size+2) (k+1) (wholeD T (T.dec.take (k+1)))
 m2:w.ownsMap Tryz.prog 3 (plainElem Tryz.prog 4) (w0.heap.size+3) k (secD T (T.dec.take k))
 kn:w.heap[w0.heap.size+4]? = some (.cells #[.map (some (w0.heap.size+2)),.map (some (w0.heap.size+3))] 150 (0,0))
 rs:w.heap[w0.heap.size+1]? = some (.cells #[.map none,.map none] 150 (0,0))
theorem KSt.first {w0 w w':World} {x:TV} {T:Tb} {k:Nat} (h:KSt w0 x T k w) (hx:TabV w0 x T) (ho:w'.ownsMap Tryz.prog 161 (plainElem Tryz.prog 3) (w0.heap.size+2) (k+1) (wholeD T (T.dec.take (k+1)))) (hg:w.grownBy w' (some (w0.heap.size+2))):KMid w0 x T k true w':=by
 have l1:=(Array.getElem?_eq_some_iff.1 h.kn).1
 have l2:=(Array.getElem?_eq_some_iff.1 h.rs).1
 exact⟨h.env.grown hx hg (by omega),ho,h.m2.kept hg (by simp),(hg.block _ l1 (by simp)).trans h.kn,(hg.block _ l2 (by simp)).trans h.rs⟩
theorem KMid.step {w0 w w':World} {x:TV} {T:Tb} {k:Nat} {b:Bool} (h:KMid w0 x T k b w) (hb:Below w.heap.size w w'):KMid w0 x T k b w':=by
 have l1:=(Array.getElem?_eq_some_iff.1 h.kn).1
 have l2:=(Array.getElem?_eq_some_iff.1 h.rs).1
 exact⟨h.env.step hb,owns_below h.m1 hb,owns_below h.m2 hb,(hb.block _ l1).trans h.kn,(hb.block _ l2).trans h.rs⟩
theorem KMid.second {w0 w w':World} {x:TV} {T:Tb} {k:Nat} {b:Bool} (h:KMid w0 x T k b w) (hx:TabV w0 x T) (ho:w'.ownsMap Tryz.prog 3 (plainElem Tryz.prog 4) (w0.heap.size+3) (k+1) (secD T (T.dec.take (k+1)))) (hg:w.grownBy w' (some (w0.heap.size+3))):KSt w0 x T (k+1) w':=by
 have l1:=(Array.getElem?_eq_some_iff.1 h.kn).1
 have l2:=(Array.getElem?_eq_some_iff.1 h.rs).1
 exact⟨h.env.grown hx hg (by omega),h.m1.kept hg (by simp),ho,(hg.block _ l1 (by simp)).trans h.kn,(hg.block _ l2 (by simp)).trans h.rs⟩
theorem KMid.cells {w0 w : World} {x : TV} {T : Tb} {k : Nat} {b : Bool} (h : KMid w0 x T k b w) :
  w.cell? ⟨w0.heap.size+4,0,none⟩=some (.map (some (w0.heap.size+2)))∧w.cell? ⟨w0.heap.size+4,1,none⟩=some (.map (some (w0.heap.size+3))) :=
 ⟨cell_of_row w _ 0 _ _ (0,0) h.kn,cell_of_row w _ 1 _ _ (0,0) h.kn⟩
theorem KSt.start (w:World) (x:TV) (T:Tb) (hx:TabV w x T):KSt w x T 0 (((((w.alloc (.cells (tabCells x) 26)).alloc (.cells #[.map none,.map none] 150)).alloc (.map #[] 0)).alloc (.map #[] 0)).alloc (.cells #[.map (some (w.heap.size+2)),.map (some (w.heap.size+3))] 150)):=by
 generalize hw0:w.alloc (.cells (tabCells x) 26)=W0
 have s0:W0.heap.size=w.heap.size+1:=by rw[←hw0];simp
 have e0:Env w x T W0:=by rw[←hw0];exact Env.new hx
 generalize hw1:W0.alloc (.cells #[.map none,.map none] 150)=W1
 have s1:W1.heap.size=w.heap.size+2:=by rw[←hw1];simp[s0]
 have b1:Below W0.heap.size W0 W1:=by rw[←hw1];exact(Below.refl _ _).alloc (Nat.le_refl _) _
 have r1:W1.heap[w.heap.size+1]? = some (.cells #[.map none,.map none] 150 (0,0)):=by rw[←hw1,←s0];exact heap_alloc_new _ _
 generalize hw2:W1.alloc (.map #[] 0)=W2
 have s2:W2.heap.size=w.heap.size+3:=by rw[←hw2];simp[s1]
 have b2:Below W1.heap.size W1 W2:=by rw[←hw2];exact(Below.refl _ _).alloc (Nat.le_refl _) _
 have o1:W2.ownsMap Tryz.prog 161 (plainElem (H:=Unit) Tryz.prog 3) (w.heap.size+2) 0 (.map []):=by rw[←hw2,←s1];exact World.ownsMap_made _ _ _ _
 generalize hw3:W2.alloc (.map #[] 0)=W3
 have s3:W3.heap.size=w.heap.size+4:=by rw[←hw3];simp[s2]
 have b3:Below W2.heap.size W2 W3:=by rw[←hw3];exact(Below.refl _ _).alloc (Nat.le_refl _) _
 have o2:W3.ownsMap Tryz.prog 3 (plainElem (H:=Unit) Tryz.prog 4) (w.heap.size+3) 0 (.map []):=by rw[←hw3,←s2];exact World.ownsMap_made _ _ _ _
 generalize hw4:W3.alloc (.cells #[.map (some (w.heap.size+2)),.map (some (w.heap.size+3))] 150)=W4
 have b4:Below W3.heap.size W3 W4:=by rw[←hw4];exact(Below.refl _ _).alloc (Nat.le_refl _) _
 have r4:W4.heap[w.heap.size+4]? = some (.cells #[.map (some (w.heap.size+2)),.map (some (w.heap.size+3))] 150 (0,0)):=by rw[←hw4,←s3];exact heap_alloc_new _ _
 have b14:=b2.trans ((b3.trans (b4.mono b3.size)).mono b2.size)
 have b24:=b3.trans (b4.mono b3.size)
 exact⟨e0.step (b1.trans (b14.mono b1.size)),owns_below o1 b24,owns_below o2 b4,r4,(b14.block _ (by omega)).trans r1⟩
theorem row_two {w : World} {b : Nat} {x y u v : Value} {t : TypeId} (h : w.heap[b]? = some (.cells #[x, y] t (0, 0))) :
  ((w.setCell ⟨b,0,none⟩ u).setCell ⟨b,1,none⟩ v).heap[b]? = some (.cells #[u,v] t (0,0)):=by
 have h1:=heap_setCell_same w b 0 #[x,y] t u h
 have h2:=heap_setCell_same _ b 1 _ t v h1
 simpa using h2
def KnownPost (T:Tb) (w:World) (e:Ending) (w':World):Prop:=∃B C,e = .returned (.agg #[.map (some B),.map (some C)])∧Known T B C w'∧Below w.heap.size w w'
set_option maxRecDepth 100000 in
set_option maxHeartbeats 8000000 in
theorem compsOf_at (x : TV) (T : Tb) (w : World) (hx : TabV w x T) (h : checkT T = 0) :
  Calls Tryz.prog 154 #[x.agg] w (KnownPost T w):=by
 obtain⟨a0,a1,a2,a3,a4,a5,a6,a7,a8,a9,a10,a11⟩:=x
 obtain⟨pm,cm,hm,hmin,hml⟩:=hx.dec
 obtain⟨n,hn⟩:∃n,T.dec.length=n:=⟨_,rfl⟩
 rw[hn]at hm hml
 simp only at hm
 subst hm
 have HS:=Lib.hid (KSt.start w ⟨a0,a1,a2,a3,a4,a5,a6,a7,a8,.slice pm n cm,a10,a11⟩ T hx)
 have hnle:n≤256:=by rw[←hn];exact(cmpH0 h).len
 have HX:=Lib.hid hx
 have HV:=Lib.hid h
 have HN:=Lib.hid hn
 have HMI:=Lib.hid hmin
 have hmm:=@run_makeMap Tryz.prog
 simp only[tabCells]at HS
 clear hx hn hmin h
 simp only[TV.agg]
 go_enter Tryz.func154,Tryz.ntmps154
 go_wp2
 clear hmm
 go_loopw [12] (fun i wr=>∃k:Nat,k≤n∧i = .int .i64 k∧Hid (KSt w ⟨a0,a1,a2,a3,a4,a5,a6,a7,a8,.slice pm n cm,a10,a11⟩ T k wr)) (fun i _=>n-(intOf i).toNat)
 case atStart=>exact⟨0,Nat.zero_le _,rfl,HS⟩
 case round =>
  obtain⟨k,hk,rfl,hs⟩:=hrel
  by_cases hlt:k<n
  ·have hkl:k<T.dec.length:=by rw[HN.out];exact hlt
   obtain⟨b,off,v,rfl,hc1,hc2,qa,cq,rfl,hi2,hm2⟩:=(HMI.out.below hs.out.env.bel) k hkl
   have hsn:=take_snoc_mp T.dec k hkl
   have hmem:=mp_getD_mem T.dec k hkl
   obtain⟨⟨f,y⟩,hfy⟩:∃s,T.dec.getD k mp0=s:=⟨_,rfl⟩
   rw[hfy]at hc1 hc2 hi2 hm2 hsn hmem
   simp only at hc1 hc2 hi2 hm2
   have hw1:=wholeD_snoc T (T.dec.take k) (f,y)
   have hw2:=secD_snoc T (T.dec.take k) (f,y)
   rw[←hsn]at hw1 hw2
   simp only at hw1 hw2
   have hpr:=fun hc=>comp_pair HV.out hmem hc
   have hdf:=dec_from HV.out (c:=f)
   have hdm:=dec_find HV.out hmem
   simp only at hpr hdm
   obtain⟨m,hm3⟩:∃m,y.length=m:=⟨_,rfl⟩
   obtain⟨C,hC⟩:∃C,Hid (compT T f=C):=⟨_,rfl⟩
   have hne:C=true→scaB f=true:=fun hc=>(hdf (comp_ne HV.out (hC.out.trans hc))).2.2
   rw[hC.out]at hw1 hw2 hpr
   have hb0:Below wr.heap.size wr (wr.alloc (.cells #[.int .i64 f,.slice qa m cq] 73)):=(Below.refl _ _).alloc (Nat.le_refl _) _
   have HSb:=Lib.hid (hs.out.step hb0)
   have HBM:=Lib.hid (BoxM.new wr f (.slice qa m cq) 73)
   have HY1:=Lib.hid (RowIn.alloc hi2 (.cells #[.int .i64 f,.slice qa m cq] 73))
   rw[hm3]at hc2 hm2
   have HM3:=Lib.hid hm3
   have HW1:=Lib.hid hw1
   have HW2:=Lib.hid hw2
   have HPR:=Lib.hid hpr
   have HNE:=Lib.hid hne
   clear hfy hsn hmem hb0 hi2 hm3 hw1 hw2 hpr hdf hdm hne
   obtain⟨⟨k0,k1,k2,k3,k4,k5⟩,⟨k6,k7,k8,k9,k10,k11⟩⟩:=HSb.out.env.box.load
   go_wp2_with fail
   refine(ccomp_at _ T f C _ HSb.out.env.tab HV.out hC).mono ?_
   rintro e w2 ⟨rfl,hb2⟩
   have HS2:=Lib.hid (HSb.out.step hb2)
   have HBM2:=Lib.hid (HBM.out.below hb2)
   have HY2:=Lib.hid (HY1.out.below hb2)
   clear hb2 k0 k1 k2 k3 k4 k5 k6 k7 k8 k9 k10 k11 hc1 hc2
   cases C with
   | false =>
    have HS3:Hid (KSt w ⟨a0,a1,a2,a3,a4,a5,a6,a7,a8,.slice (some ⟨b,off,none⟩) n cm,a10,a11⟩ T (k+1) w2):=by
     have e1:=HW1.out
     have e2:=HW2.out
     simp only[Bool.false_eq_true,if_false]at e1 e2
     exact⟨HS2.out.env,by rw[e1];exact HS2.out.m1.mono (Nat.le_succ _),by rw[e2];exact HS2.out.m2.mono (Nat.le_succ _),HS2.out.kn,HS2.out.rs⟩
    go_wp2
    go_roundw
    case rel=>exact⟨k+1,by omega,by go_num,HS3⟩
    case measure=>simp[intOf];omega
   | true =>
    obtain⟨a,b',rfl,hwa,hwb⟩:=HPR.out rfl
    obtain rfl:m=2:=HM3.out.symm
    obtain⟨be,offe,rfl,s0⟩:=HY2.out 0 (by simp)
    obtain⟨be',offe',ee,s1⟩:=HY2.out 1 (by simp)
    injection ee with ee
    injection ee with ee1 ee2
    subst ee1;subst ee2
    simp only[List.getD_cons_zero,List.getD_cons_succ,Nat.add_zero]at s0 s1
    obtain⟨m0,m1⟩:=HBM2.out
    obtain⟨n0,n1⟩:=HS2.out.cells
    have HWA:Hid (wf64 a):=wf64_of hwa
    have HWB:Hid (wf64 b'):=wf64_of hwb
    have HWF:Hid (wf64 f):=wf64_of (by have:=scaB_iff.1 (HNE.out rfl);exact⟨this.1,this.2.1⟩)
    have E1:Hid (wholeD T (T.dec.take (k+1))=(wholeD T (T.dec.take k)).put (litOf [a,b']) (.lit (.int .i64 f))):=by have:=HW1.out;rw[if_pos rfl]at this;exact this
    have E2:Hid (secD T (T.dec.take (k+1))=(secD T (T.dec.take k)).put (.int .i64 b') (.lit (.bool true))):=by have:=HW2.out;rw[if_pos rfl]at this;exact this
    have HQ2:=Lib.hid (show w2.cell? ⟨wr.heap.size,1,none⟩=some (.slice (some ⟨be,offe,none⟩) 2 cq)∧w2.cell? ⟨be,offe+1,none⟩=some (.int .i64 b') from⟨m1,s1⟩)
    clear hwa hwb HW1 HW2 HPR HNE HM3
    go_upto_region 6 with(fail)
    go_still_tail 13,(by kernel_rfl)
    change wpList _ _ _ _ _ w2.drew
    have hq:Below w2.heap.size w2 w2.drew:=drew_one _
    have HS3:=Lib.hid (HS2.out.step hq)
    have HQ3:Hid (w2.drew.cell? ⟨wr.heap.size,1,none⟩=some (.slice (some ⟨be,offe,none⟩) 2 cq)∧w2.drew.cell? ⟨be,offe+1,none⟩=some (.int .i64 b')):=HQ2.out
    generalize w2.drew=w3 at HS3 HQ3 hq ⊢
    clear hq m0 m1 n0 n1 s0 s1 HQ2
    go_wp2_with (at_mapUpdate;refine wpList_mapUpdate_own _ rfl _ _ _ 147 rfl 161 3 pairLaw Tryz.underlying147 (plainElem Tryz.prog 3) (w.heap.size+2) k (wholeD T (T.dec.take k)) rfl HS3.out.m1 (by unfold maxLen;omega) _ _ (pairLit a b') rfl rfl (pair_key64 HWA.out HWB.out) (.lit (.int .i64 f)) [] (plainElem_int Tryz.underlying3 HWF.out) ?_;intro w4 hown4 hg4)
    have HM4:Hid (KMid w ⟨a0,a1,a2,a3,a4,a5,a6,a7,a8,.slice (some ⟨b,off,none⟩) n cm,a10,a11⟩ T k true w4):=HS3.out.first HX.out (by rw[E1.out];exact hown4) hg4
    have HQ4:Hid (w4.cell? ⟨wr.heap.size,1,none⟩=some (.slice (some ⟨be,offe,none⟩) 2 cq)∧w4.cell? ⟨be,offe+1,none⟩=some (.int .i64 b')):=by
     have z1:=owns_ne HS3.out.m1 HQ3.out.1
     have z2:=owns_ne HS3.out.m1 HQ3.out.2
     simp only at z1 z2
     exact⟨hg4.cell HQ3.out.1 (by simp;omega),hg4.cell HQ3.out.2 (by simp;omega)⟩
    clear hown4 hg4 HQ3
    obtain⟨m1,s1⟩:=HQ4.out
    obtain⟨n0,n1⟩:=HM4.out.cells
    go_upto_region 7 with(fail)
    go_still_tail 6,(by kernel_rfl)
    change wpList _ _ _ _ _ w4.drew
    have hq:Below w4.heap.size w4 w4.drew:=drew_one _
    have HM5:=Lib.hid (HM4.out.step hq)
    generalize w4.drew=w5 at HM5 hq ⊢
    clear hq m1 n0 n1 s1 HQ4
    go_wp2_with (at_mapUpdate;refine wpList_mapUpdate_own _ rfl _ _ _ 148 rfl 3 4 intLaw Tryz.underlying148 (plainElem Tryz.prog 4) (w.heap.size+3) k (secD T (T.dec.take k)) rfl HM5.out.m2 (by unfold maxLen;omega) _ _ (.int .i64 b') rfl rfl (keyOf_int_mk Tryz.underlying3 HWB.out) (.lit (.bool true)) [] (plainElem_bool Tryz.underlying4 true) ?_;intro w6 hown6 hg6)
    have HS6:Hid (KSt w ⟨a0,a1,a2,a3,a4,a5,a6,a7,a8,.slice (some ⟨b,off,none⟩) n cm,a10,a11⟩ T (k+1) w6):=HM5.out.second HX.out (by rw[E2.out];exact hown6) hg6
    clear hown6 hg6
    go_wp2
    go_roundw
    case rel=>exact⟨k+1,by omega,by go_num,HS6⟩
    case measure=>simp[intOf];omega
  ·obtain rfl:k=n:=by omega
   have HK:Hid (Known T (w.heap.size+2) (w.heap.size+3) wr):=by
    have h1:=hs.out.m1
    have h2:=hs.out.m2
    rw[List.take_of_length_le (Nat.le_of_eq HN.out)]at h1 h2
    exact⟨⟨_,h1⟩,⟨_,h2⟩⟩
   have HBE:Hid (Below w.heap.size w wr):=hs.out.env.bel
   obtain⟨n0,n1⟩:=hs.out.cells
   have hrs:=hs.out.rs
   have rc0:=cell_of_row wr (w.heap.size+1) 0 _ _ (0,0) hrs
   have rc1:=cell_of_row wr (w.heap.size+1) 1 _ _ (0,0) hrs
   have rf0:wr.frozen? ⟨w.heap.size+1,0,none⟩=false:=by simp[World.frozen?,hrs]
   have rf1:wr.frozen? ⟨w.heap.size+1,1,none⟩=false:=by simp[World.frozen?,hrs]
   have HRS:=Lib.hid hrs
   clear hrs
   simp only[List.getElem?_toArray,List.getElem?_cons_zero,List.getElem?_cons_succ]at rc0 rc1
   go_wp2
   refine bodyPost_ret (results_cell_row rfl _ _ (w.heap.size+1) _ _ _ _ rfl (row_two HRS.out) Tryz.underlying150 rfl (by kernel_rfl)) rfl ?_
   refine⟨_,_,rfl,⟨?_,?_⟩,?_⟩
   ·obtain⟨n1,h1⟩:=HK.out.whole
    exact⟨n1,(h1.setCell (by simp) _).setCell (by simp) _⟩
   ·obtain⟨n1,h1⟩:=HK.out.sec
    exact⟨n1,(h1.setCell (by simp) _).setCell (by simp) _⟩
   ·exact(HBE.out.setCell (by simp) _).setCell (by simp) _
end Go.Proofs.YtblcoicaeeiojaaGreatDoor
