/-
  compose: NFC, IsNFC, Quick, Pair, Second (genCC.py).
-/
import Derived.Test.YtblcoicaeeiojaaGreatDoorSSiPmCmpB
import Derived.Test.YtblcoicaeeiojaaGreatDoorSSiPmOrdEnv
import Derived.BigQuiet
set_option linter.unusedSimpArgs false
set_option linter.unusedVariables false
namespace Go.Proofs.YtblcoicaeeiojaaGreatDoor
open Go.RowKit
theorem rowin_dropC {t:IntKind} {w:World} {b off:Nat} {xs:List Int} (h:RowIn t w (some ⟨b,off,none⟩) xs) (k:Nat):RowIn t w (some ⟨b,off+k,none⟩) (xs.drop k):=by
 intro j hj
 have hj2:k+j<xs.length:=by rw[List.length_drop]at hj;omega
 obtain⟨b2,off2,e,hc⟩:=h (k+j) hj2
 injection e with e
 injection e with e1 e2 _
 subst e1 e2
 refine⟨_,_,rfl,?_⟩
 rw[Nat.add_assoc,hc]
 congr 2
 simp[List.getD]
theorem ints_capC {w:World} {B n c:Nat} {p:Option Addr} {xs:List Int} (h:Ints w B (.slice p n c) xs):n≤c:=row_cap h rfl
structure NKnown (w0:World) (x:TV) (T:Tb) (B C kb:Nat) (pD:Option Addr) (D:List Int) (w:World):Prop where
 env:Env w0 x T w
 known:Known T B C w
 kn:w.heap[kb]? = some (.cells #[.map (some B),.map (some C)] 150 (0,0))
 row:IntsIn w pD D
theorem NKnown.step {w0 w w':World} {x:TV} {T:Tb} {B C kb:Nat} {pD:Option Addr} {D:List Int} (h:NKnown w0 x T B C kb pD D w) (hb:Below w.heap.size w w'):NKnown w0 x T B C kb pD D w' :=
 ⟨h.env.step hb,h.known.below hb,(hb.block _ (Array.getElem?_eq_some_iff.1 h.kn).1).trans h.kn,h.row.below hb⟩
theorem NKnown.cells {w0 w : World} {x : TV} {T : Tb} {B C kb : Nat} {pD : Option Addr} {D : List Int} (h : NKnown w0 x T B C kb pD D w) :
  w.cell? ⟨kb,0,none⟩=some (.map (some B))∧w.cell? ⟨kb,1,none⟩=some (.map (some C)) :=
 ⟨cell_of_row w _ 0 _ _ (0,0) h.kn,cell_of_row w _ 1 _ _ (0,0) h.kn⟩
theorem NKnown.start {w0 w : World} {x : TV} {T : Tb} {B C : Nat} {pD : Option Addr} {D : List Int} (h1 : Env w0 x T w) (h2 : Known T B C w) (h3 : IntsIn w pD D) :
  NKnown w0 x T B C w.heap.size pD D (w.alloc (.cells #[.map (some B),.map (some C)] 150)):=by
 have hb:Below w.heap.size w (w.alloc (.cells #[.map (some B),.map (some C)] 150)):=(Below.refl _ _).alloc (Nat.le_refl _) _
 exact⟨h1.step hb,h2.below hb,heap_alloc_new _ _,h3.below hb⟩
theorem fin_wf {c:Int} (h:scaB c=true):wf64 c:=by
 have:=scaB_iff.1 h
 exact wf64_of ⟨this.1,this.2.1⟩
set_option maxRecDepth 100000 in
set_option maxHeartbeats 16000000 in
theorem nfc_at (x : TV) (T : Tb) (p : Option Addr) (cap : Nat) (zs : List Int) (E : Int) (L : List Int) (w : World) (hx : TabV w x T) (hr : Rsv w) (hin : IntsIn w p zs) (hl : zs.length ≤ 17592186043904)
  (hE:Hid (nfdE T zs=E)) (hL:Hid (nfcL T zs=L)) :
  Calls Tryz.prog 104 #[x.agg,.slice p zs.length cap] w (LRet L E w):=by
 obtain⟨D,hD⟩:∃D,Hid (nfdL T zs=D):=⟨_,rfl⟩
 have HE:=Lib.hid (Env.new hx)
 have HI:=Lib.hid hin
 have HR:=Lib.hid hr
 have hnf:=fun W (h1:TabV W x T) h2 h3=>nfd_at x T p cap zs E D W h1 h2 h3 hl hE hD
 obtain⟨n,hn⟩:∃n,zs.length=n:=⟨_,rfl⟩
 rw[hn]at hl hnf ⊢
 have HNF:=Lib.hid hnf
 clear hx hin hr hn hnf
 simp only[TV.agg]
 go_enter Tryz.func104,Tryz.ntmps104
 obtain⟨⟨k0,k1,k2,k3,k4,k5⟩,⟨k6,k7,k8,k9,k10,k11⟩⟩:=HE.out.box.load
 go_wp2_with fail
 refine(HNF.out _ HE.out.tab (HR.out.below HE.out.bel) (HI.out.below HE.out.bel)).mono ?_
 rintro e w1 ⟨v1,rfl,ho1,hb⟩
 obtain⟨pD,cD,rfl,hi1⟩:=ho1.inn
 replace HE:=Lib.hid (HE.out.step hb)
 have HI1:=Lib.hid hi1
 obtain⟨m,hm⟩:∃m,D.length=m:=⟨_,rfl⟩
 have hm4:m≤4096:=by rw[←hm,←hD.out];exact nfdL_len T zs
 rw[hm]
 have HM:=Lib.hid hm
 clear ho1 hb hi1 hm HNF k0 k1 k2 k3 k4 k5 k6 k7 k8 k9 k10 k11
 by_cases h0:E=0
 ·subst h0
  have HV:Hid (checkT T=0):=nfd_check hE.out
  have HLL:Hid (nfcS T D=L):=by unfold Hid;rw[←hL.out,nfcL_ok hE.out,hD.out]
  have HFI:Hid (∀y∈D,Fin1 T y):=by have:=nfd_fin hE.out;rwa[hD.out]at this
  have HH:=Lib.hid (cmpH0 HV.out)
  obtain⟨⟨k0,k1,k2,k3,k4,k5⟩,⟨k6,k7,k8,k9,k10,k11⟩⟩:=HE.out.box.load
  go_wp2_with fail
  refine(compsOf_at x T _ HE.out.tab HV.out).mono ?_
  rintro e w2 ⟨B,C,rfl,hk,hb⟩
  replace HE:=Lib.hid (HE.out.step hb)
  replace HI1:=Lib.hid (HI1.out.below hb)
  have hns:=NKnown.start HE.out hk HI1.out
  obtain⟨wk,hwk⟩:∃wk,wk=w2.alloc (.cells #[.map (some B),.map (some C)] 150):=⟨_,rfl⟩
  rw[←hwk]at hns
  have HNS:=Lib.hid hns
  have HWK:=Lib.hid hwk
  have HSZ:Hid (wk.heap.size=w2.heap.size+1):=by unfold Hid;rw[hwk];simp
  have hmk:=run_make_ints0 m (by omega)
  clear hk hb hns hwk HE HI1 HI k0 k1 k2 k3 k4 k5 k6 k7 k8 k9 k10 k11
  go_wp2
  clear hmk
  go_loopw [9,10,32] (fun u s i wr=>∃(k:Nat) (st:Int) (O:List Int),k≤m∧i = .int .i64 k∧s = .int .i64 st∧Hid (Cst T D k st O)∧Hid (Ints wr wk.heap.size u O)∧Hid (Below wk.heap.size wk wr)) (fun _ _ i _=>m-(intOf i).toNat)
  case atStart =>
   refine⟨0,-1,[],Nat.zero_le _,rfl,rfl,Cst.start T D,?_,?_⟩
   ·have:=Ints.made wk wk.heap.size m (Nat.le_refl _) (by omega)
    rw[HSZ.out]at this ⊢
    rw[HWK.out]at this
    simpa[Hid] using this
   ·have:=(Below.refl wk.heap.size wk).alloc (Nat.le_refl _) (madeI m)
    unfold Hid
    rw[HWK.out]at this ⊢
    exact this
  case round =>
   obtain⟨k,st,O,hk,rfl,rfl,hcst,hown,hbel⟩:=hrel
   have hns:=Lib.hid (HNS.out.step hbel.out)
   by_cases hlt:k<m
   ·have hkl:k<D.length:=by rw[HM.out];exact hlt
    obtain⟨b,off,rfl,hck⟩:=hns.out.row k hkl
    obtain⟨c,hc⟩:∃c,D.getD k 0=c:=⟨_,rfl⟩
    rw[hc]at hck
    have HFC:Hid (Fin1 T c):=HFI.out c (by rw[←hc];simp[hkl])
    have HC:=Lib.hid hc
    obtain⟨z,hz⟩:∃z,Hid (clsT T c=z):=⟨_,rfl⟩
    obtain⟨pO,cO,rfl,hiO⟩:=hown.out.inn
    obtain⟨no,hno⟩:∃no,O.length=no:=⟨_,rfl⟩
    rw[hno]at hown ⊢
    have hno4:no≤4096:=by have:=hcst.out.len;omega
    have hcO:=ints_capC hown.out
    have hgO:=hown.out.row
    have HNO:=Lib.hid hno
    have hstb:=hcst.out.bound
    rw[hno]at hstb hgO
    have HGO:=Lib.hid hgO
    have HIO:=Lib.hid hiO
    clear hc hno hiO hgO
    obtain⟨⟨k0,k1,k2,k3,k4,k5⟩,⟨k6,k7,k8,k9,k10,k11⟩⟩:=hns.out.env.box.load
    go_wp2_with fail
    refine(class_at _ T c z _ hns.out.env.tab HH.out.cls hz).mono ?_
    rintro e w3 ⟨rfl,hb⟩
    have HN3:=Lib.hid (hns.out.step hb)
    have HO3:=Lib.hid (hown.out.below hb)
    have HI3:=Lib.hid (HIO.out.below hb)
    have HB3:=Lib.hid (hbel.out.trans (hb.mono hbel.out.size))
    clear hb hck k0 k1 k2 k3 k4 k5 k6 k7 k8 k9 k10 k11 hown hbel hns HIO
    by_cases hst:st<0
    ·obtain rfl:st = -1:=by omega
     have HP:Hid (resO T O (-1) c=none):=resO_none (by omega)
     have ds:decide ((0:Int)≤-1)=false:=by decide
     clear hst hstb
     go_upto_region 11 with(fail)
     go_quiet (fail)
     generalize hwq:World.drewN w3 _=W
     have hq:Below w3.heap.size w3 W:=by rw[←hwq];exact drew_ref _ _
     have HN:=Lib.hid (HN3.out.step hq)
     have HO:=Lib.hid (HO3.out.below hq)
     have HB:=Lib.hid (HB3.out.trans (hq.mono HB3.out.size))
     clear hwq hq HN3 HO3 HI3 HB3
     by_cases hz0:z=0
     ·have dz:(z==0)=true:=by simp[hz0]
      have HC4:Hid (Cst T D (k+1) (no:Int) (O++[c])):=by
       have:=hcst.out.zero (by rw[HM.out];exact hlt) HC.out HFC.out.1 HP.out (by rw[hz.out];exact hz0)
       rw[HNO.out]at this;exact this
      have HLI:=Lib.hid (lit_ints W #[.int .i64 c] [c] 3 rfl)
      have HOA:Hid (Ints (W.alloc (.cells #[.int .i64 c] 3)) wk.heap.size (.slice pO no cO) O):=HO.out.alloc _
      have hsz:wk.heap.size≤(W.alloc (.cells #[.int .i64 c] 3)).heap.size:=by have:=HB.out.size;simp;omega
      have HBA:=Lib.hid (HB.out.alloc HB.out.size (.cells #[.int .i64 c] 3))
      clear hz0
      go_wp2_with (at_builtin;(refine wpList_append_ints _ _ rfl rfl wk.heap.size (.slice pO no cO) O rfl HOA.out (some ⟨W.heap.size,0,none⟩) 1 1 [c] rfl rfl HLI.out (by rw[HNO.out];simp;omega) hsz ?_);intro v4 w4 ho4 hg4)
      have HB4:Hid (Below wk.heap.size wk w4):=below_appI HBA.out HOA.out (Nat.le_refl _) hg4
      have HO4:=Lib.hid ho4
      clear ho4 hg4 hsz
      go_wp2
      go_roundw
      case rel=>exact⟨k+1,_,_,by omega,by go_num,rfl,HC4,HO4,HB4⟩
      case measure=>simp[intOf];omega
     ·have dz:(z==0)=false:=by simp[hz0]
      have HC4:Hid (Cst T D (k+1) (-1) (O++[c])):=hcst.out.mark (by rw[HM.out];exact hlt) HC.out HFC.out.1 HP.out (by rw[hz.out];exact hz0)
      have HLI:=Lib.hid (lit_ints W #[.int .i64 c] [c] 3 rfl)
      have HOA:Hid (Ints (W.alloc (.cells #[.int .i64 c] 3)) wk.heap.size (.slice pO no cO) O):=HO.out.alloc _
      have hsz:wk.heap.size≤(W.alloc (.cells #[.int .i64 c] 3)).heap.size:=by have:=HB.out.size;simp;omega
      have HBA:=Lib.hid (HB.out.alloc HB.out.size (.cells #[.int .i64 c] 3))
      clear hz0
      go_wp2_with (at_builtin;(refine wpList_append_ints _ _ rfl rfl wk.heap.size (.slice pO no cO) O rfl HOA.out (some ⟨W.heap.size,0,none⟩) 1 1 [c] rfl rfl HLI.out (by rw[HNO.out];simp;omega) hsz ?_);intro v4 w4 ho4 hg4)
      have HB4:Hid (Below wk.heap.size wk w4):=below_appI HBA.out HOA.out (Nat.le_refl _) hg4
      have HO4:=Lib.hid ho4
      clear ho4 hg4 hsz
      go_wp2
      go_roundw
      case rel=>exact⟨k+1,_,_,by omega,by go_num,rfl,HC4,HO4,HB4⟩
      case measure=>simp[intOf];omega
    ·obtain⟨a,rfl⟩:∃a:Nat,st=a:=⟨st.toNat,by omega⟩
     have ha:a<no:=by omega
     have ds:decide ((0:Int)≤(a:Int))=true:=decide_eq_true (by omega)
     obtain⟨go,cg,eg,hge,hglt,hgc,hgf⟩:=HO3.out.row (by rw[HNO.out];omega)
     rw[HNO.out]at eg
     injection eg with eg1 _ eg2
     subst eg1 eg2
     obtain⟨M,hM⟩:∃M,O.drop (a+1)=M:=⟨_,rfl⟩
     obtain⟨sO,hsO⟩:∃s,O.getD a 0=s:=⟨_,rfl⟩
     have hga:=hgc a (by rw[HNO.out];exact ha)
     rw[hsO]at hga
     have hfr:=hgf a
     have HGA:=Lib.hid hga
     have HFR:=Lib.hid hfr
     have HSC : Hid (scaB sO = true) := hcst.out.sca sO (by rw [← hsO]; have : a < O.length := by rw [HNO.out]; exact ha
                                                            simp[this])
     have hML:M.length=no-(a+1):=by rw[←hM,List.length_drop,HNO.out]
     have HMC:Hid (unbl T M c→resO T O (a:Int) c=pairO T sO c):=fun h=>by
      have:=resO_open (T:=T) (O:=O) (st:=(a:Int)) (c:=c) (by omega) (by rw[Int.toNat_natCast,hM];exact h)
      rw[this,Int.toNat_natCast,hsO]
     have HMN:Hid (¬unbl T M c→resO T O (a:Int) c=none):=fun h=>resO_blocked (by omega) (by rw[Int.toNat_natCast,hM];exact h)
     obtain⟨Bk,hBk⟩:∃Bk,Hid (decide (M≠[]∧z≤clsT T (M.getD (M.length-1) 0))=Bk):=⟨_,rfl⟩
     have HBU:Hid (Bk=false→unbl T M c):=fun h=>by
      have hb:=hBk.out
      rw[h,decide_eq_false_iff_not]at hb
      rw[unbl_iff,hz.out]
      by_cases e:M=[]
      ·exact .inl e
      ·right
       by_cases e2:z≤clsT T (M.getD (M.length-1) 0)
       ·exact absurd ⟨e,e2⟩ hb
       ·omega
     have HBN:Hid (Bk=true→¬unbl T M c):=fun h=>by
      have hb:=hBk.out
      rw[h,decide_eq_true_eq]at hb
      rw[unbl_iff,hz.out]
      intro e
      rcases e with e|e
      ·exact hb.1 e
      ·omega
     obtain⟨j,hj⟩:∃j,a+1=j:=⟨_,rfl⟩
     rw[hj]at hM hML
     obtain⟨P3,hP3⟩:∃P3,(if cO=j then some (⟨go,0,none⟩:Addr)else some ⟨go,j,none⟩)=P3:=⟨_,rfl⟩
     have hT3:IntsIn w3 P3 M:=by
      rw[←hP3,←hM]
      split
      ·intro i hi
       rw[List.length_drop,HNO.out]at hi
       omega
      ·have:=rowin_dropC HI3.out j
       rwa[Nat.zero_add]at this
     have HT3:=Lib.hid hT3
     have HML:=Lib.hid hML
     have hj1:(a:Int)+1=(j:Int):=by omega
     have hj2:IntKind.i64.wrap ((a:Int)+1)=(j:Int):=by rw[IntWalk.i64_in _ (by omega)];omega
     have hj3:IntKind.i64.wrap (j:Int)=(j:Int):=IntWalk.i64_in _ (by omega)
     have hj4:(j:Int)≤(no:Int):=by omega
     have hj5:j≤no:=by omega
     have hj8:(no:Int)≤(cO:Int):=by omega
     have hai:(a:Int)<(no:Int):=by omega
     have hnj:Hid (no-j≤17592186043904):=by unfold Hid;omega
     have hbc:=fun W (h1:TabV W x T) h2=>blocked_at x T P3 (no-j) (cO-j) M z Bk W h1 HH.out.cls h2 HML.out hnj.out hBk
     have HBC:=Lib.hid hbc
     clear hM hsO hML hT3 hst hstb hgc hgf hj HI3 hbc
     go_upto_region 11 with(fail)
     go_cut [50] (fun v wx=>v = .bool (!Bk)∧Hid (Below w3.heap.size w3 wx))
     case first =>
      have hed:=HN3.out.env.step (drew_one w3)
      have HED:=Lib.hid hed
      clear hed
      go_region_held3 (boxF w.heap.size x)
       (first
        | exact HED.out.box.flat
        | exact(HED.out.step hb4).box.flat)
       (first
        | (go_at_call 156;(with_reducible refine(HBC.out _ HED.out.tab (HT3.out.below (drew_one w3))).mono ?_);rintro e w4 ⟨rfl,hb4⟩)
        | fail)
      all_goals
       have hf:=(drew_one w3).trans (hb4.mono (drew_one w3).size)
       try (go_wp2_with fail)
       go_meet
       exact⟨by cases Bk<;>rfl,hf⟩
     case rest =>
      obtain⟨rfl,hcb⟩:=hcut
      generalize wc=W at hcb ⊢
      have HN:=Lib.hid (HN3.out.step hcb.out)
      have HO:=Lib.hid (HO3.out.below hcb.out)
      have HB:=Lib.hid (HB3.out.trans (hcb.out.mono HB3.out.size))
      clear hj1 hj2 hj3 hj4 hj5 HT3 HML hnj HBC HN3 HO3 HB3 hBk hP3
      cases Bk with
      | true =>
       have HP:Hid (resO T O (a:Int) c=none):=HMN.out (HBN.out rfl)
       clear HBU HBN HMC HMN
       by_cases hz0:z=0
       ·have dz:(z==0)=true:=by simp[hz0]
        have HC4:Hid (Cst T D (k+1) (no:Int) (O++[c])):=by
         have:=hcst.out.zero (by rw[HM.out];exact hlt) HC.out HFC.out.1 HP.out (by rw[hz.out];exact hz0)
         rw[HNO.out]at this;exact this
        have HLI:=Lib.hid (lit_ints W #[.int .i64 c] [c] 3 rfl)
        have HOA:Hid (Ints (W.alloc (.cells #[.int .i64 c] 3)) wk.heap.size (.slice (some ⟨go,0,none⟩) no cO) O):=HO.out.alloc _
        have hsz:wk.heap.size≤(W.alloc (.cells #[.int .i64 c] 3)).heap.size:=by have:=HB.out.size;simp;omega
        have HBA:=Lib.hid (HB.out.alloc HB.out.size (.cells #[.int .i64 c] 3))
        clear hz0
        go_wp2_with (at_builtin;(refine wpList_append_ints _ _ rfl rfl wk.heap.size (.slice (some ⟨go,0,none⟩) no cO) O rfl HOA.out (some ⟨W.heap.size,0,none⟩) 1 1 [c] rfl rfl HLI.out (by rw[HNO.out];simp;omega) hsz ?_);intro v4 w4 ho4 hg4)
        have HB4:Hid (Below wk.heap.size wk w4):=below_appI HBA.out HOA.out (Nat.le_refl _) hg4
        have HO4:=Lib.hid ho4
        clear ho4 hg4 hsz
        go_wp2
        go_roundw
        case rel=>exact⟨k+1,_,_,by omega,by go_num,rfl,HC4,HO4,HB4⟩
        case measure=>simp[intOf];omega
       ·have dz:(z==0)=false:=by simp[hz0]
        have HC4:Hid (Cst T D (k+1) (a:Int) (O++[c])):=hcst.out.mark (by rw[HM.out];exact hlt) HC.out HFC.out.1 HP.out (by rw[hz.out];exact hz0)
        have HLI:=Lib.hid (lit_ints W #[.int .i64 c] [c] 3 rfl)
        have HOA:Hid (Ints (W.alloc (.cells #[.int .i64 c] 3)) wk.heap.size (.slice (some ⟨go,0,none⟩) no cO) O):=HO.out.alloc _
        have hsz:wk.heap.size≤(W.alloc (.cells #[.int .i64 c] 3)).heap.size:=by have:=HB.out.size;simp;omega
        have HBA:=Lib.hid (HB.out.alloc HB.out.size (.cells #[.int .i64 c] 3))
        clear hz0
        go_wp2_with (at_builtin;(refine wpList_append_ints _ _ rfl rfl wk.heap.size (.slice (some ⟨go,0,none⟩) no cO) O rfl HOA.out (some ⟨W.heap.size,0,none⟩) 1 1 [c] rfl rfl HLI.out (by rw[HNO.out];simp;omega) hsz ?_);intro v4 w4 ho4 hg4)
        have HB4:Hid (Below wk.heap.size wk w4):=below_appI HBA.out HOA.out (Nat.le_refl _) hg4
        have HO4:=Lib.hid ho4
        clear ho4 hg4 hsz
        go_wp2
        go_roundw
        case rel=>exact⟨k+1,_,_,by omega,by go_num,rfl,HC4,HO4,HB4⟩
        case measure=>simp[intOf];omega
      | false =>
       have HPC:Hid (resO T O (a:Int) c=pairO T sO c):=HMC.out (HBU.out rfl)
       obtain⟨⟨p',o⟩,hpo⟩:∃y,Hid (pairT0 T sO c=y):=⟨_,rfl⟩
       obtain⟨n0,n1⟩:=HN.out.cells
       have hkp:=fun W2 (h:Known T B C W2)=>kpair_at T B C sO c p' o W2 h HV.out (fin_wf HSC.out) (fin_wf HFC.out.1) hpo
       have HKP:=Lib.hid hkp
       clear hkp
       have hga2:W.cell? ⟨go,a,none⟩=some (.int .i64 sO):=(hcb.out.cell (p:=⟨go,a,none⟩) (World.block_lt_of_cell? _ _ HGA.out)).trans HGA.out
       clear HBU HBN HMC HMN
       go_upto_region 12 with(fail)
       go_cut [14,15] (fun u v wx=>u = .int .i64 p'∧v = .bool o∧Hid (Below W.heap.size W wx))
       case first =>
        go_region_held3 (fun w'=>w'.cell? ⟨w2.heap.size,0,none⟩=some (.map (some B))∧w'.cell? ⟨w2.heap.size,1,none⟩=some (.map (some C))∧w'.cell? ⟨go,a,none⟩=some (.int .i64 sO))
         (first
          | exact⟨n0,n1,hga2⟩
          | exact⟨(hb5.cell (p:=⟨w2.heap.size,0,none⟩) (World.block_lt_of_cell? _ _ n0)).trans n0,(hb5.cell (p:=⟨w2.heap.size,1,none⟩) (World.block_lt_of_cell? _ _ n1)).trans n1,(hb5.cell (p:=⟨go,a,none⟩) (World.block_lt_of_cell? _ _ hga2)).trans hga2⟩)
         (first
          | (go_at_call 157;(with_reducible refine(HKP.out _ (HN.out.known.below (drew_one W))).mono ?_);rintro e w5 ⟨rfl,hb5⟩)
          | fail)
        all_goals
         have hf:=(drew_one W).trans (hb5.mono (drew_one W).size)
         try (go_wp2_with fail)
         go_meet
         exact⟨rfl,rfl,hf⟩
       case rest =>
        obtain⟨rfl,rfl,hcb2⟩:=hcut
        generalize wc=W3 at hcb2 ⊢
        replace HN:=Lib.hid (HN.out.step hcb2.out)
        replace HO:=Lib.hid (HO.out.below hcb2.out)
        replace HB:=Lib.hid (HB.out.trans (hcb2.out.mono HB.out.size))
        have HGA3:Hid (W3.cell? ⟨go,a,none⟩=some (.int .i64 sO)):=(hcb2.out.cell (p:=⟨go,a,none⟩) (World.block_lt_of_cell? _ _ hga2)).trans hga2
        clear n0 n1 hga2
        cases o with
        | true =>
         have HP:Hid (resO T O (a:Int) c=some p'):=by unfold Hid;rw[HPC.out];exact pairT0_some hpo.out
         have HC4:Hid (Cst T D (k+1) (a:Int) (O.set a p')):=by
          have:=hcst.out.comp HV.out (by rw[HM.out];exact hlt) HC.out HFC.out HP.out
          rwa[Int.toNat_natCast]at this
         have hst:=HO.out.set HNO.out a p'
         have HSET:=Lib.hid hst
         have HB4:Hid (Below wk.heap.size wk (W3.setCell ⟨go,a,none⟩ (.int .i64 p'))):=HB.out.grown (grownBy_store W3 go a (.int .i64 p')) HB.out.size (fun k e=>by injection e with e;omega)
         have hga3:=HGA3.out
         obtain⟨g5,c5,e5,_,_,_,hf5⟩:=HO.out.row (by rw[HNO.out];omega)
         injection e5 with e5 _ _
         injection e5 with e5
         injection e5 with e5 _ _
         subst e5
         have hfr:=hf5 a
         clear hst hf5
         go_wp2
         go_roundw
         case rel=>exact⟨k+1,_,_,by omega,by go_num,rfl,HC4,HSET,HB4⟩
         case measure=>simp[intOf];omega
        | false =>
         have HP:Hid (resO T O (a:Int) c=none):=by unfold Hid;rw[HPC.out];exact(pairT0_none hpo.out).1
         by_cases hz0:z=0
         ·have dz:(z==0)=true:=by simp[hz0]
          have HC4:Hid (Cst T D (k+1) (no:Int) (O++[c])):=by
           have:=hcst.out.zero (by rw[HM.out];exact hlt) HC.out HFC.out.1 HP.out (by rw[hz.out];exact hz0)
           rw[HNO.out]at this;exact this
          have HLI:=Lib.hid (lit_ints W3 #[.int .i64 c] [c] 3 rfl)
          have HOA:Hid (Ints (W3.alloc (.cells #[.int .i64 c] 3)) wk.heap.size (.slice (some ⟨go,0,none⟩) no cO) O):=HO.out.alloc _
          have hsz:wk.heap.size≤(W3.alloc (.cells #[.int .i64 c] 3)).heap.size:=by have:=HB.out.size;simp;omega
          have HBA:=Lib.hid (HB.out.alloc HB.out.size (.cells #[.int .i64 c] 3))
          clear hz0
          go_wp2_with (at_builtin;(refine wpList_append_ints _ _ rfl rfl wk.heap.size (.slice (some ⟨go,0,none⟩) no cO) O rfl HOA.out (some ⟨W3.heap.size,0,none⟩) 1 1 [c] rfl rfl HLI.out (by rw[HNO.out];simp;omega) hsz ?_);intro v4 w4 ho4 hg4)
          have HB4:Hid (Below wk.heap.size wk w4):=below_appI HBA.out HOA.out (Nat.le_refl _) hg4
          have HO4:=Lib.hid ho4
          clear ho4 hg4 hsz
          go_wp2
          go_roundw
          case rel=>exact⟨k+1,_,_,by omega,by go_num,rfl,HC4,HO4,HB4⟩
          case measure=>simp[intOf];omega
         ·have dz:(z==0)=false:=by simp[hz0]
          have HC4:Hid (Cst T D (k+1) (a:Int) (O++[c])):=hcst.out.mark (by rw[HM.out];exact hlt) HC.out HFC.out.1 HP.out (by rw[hz.out];exact hz0)
          have HLI:=Lib.hid (lit_ints W3 #[.int .i64 c] [c] 3 rfl)
          have HOA:Hid (Ints (W3.alloc (.cells #[.int .i64 c] 3)) wk.heap.size (.slice (some ⟨go,0,none⟩) no cO) O):=HO.out.alloc _
          have hsz:wk.heap.size≤(W3.alloc (.cells #[.int .i64 c] 3)).heap.size:=by have:=HB.out.size;simp;omega
          have HBA:=Lib.hid (HB.out.alloc HB.out.size (.cells #[.int .i64 c] 3))
          clear hz0
          go_wp2_with (at_builtin;(refine wpList_append_ints _ _ rfl rfl wk.heap.size (.slice (some ⟨go,0,none⟩) no cO) O rfl HOA.out (some ⟨W3.heap.size,0,none⟩) 1 1 [c] rfl rfl HLI.out (by rw[HNO.out];simp;omega) hsz ?_);intro v4 w4 ho4 hg4)
          have HB4:Hid (Below wk.heap.size wk w4):=below_appI HBA.out HOA.out (Nat.le_refl _) hg4
          have HO4:=Lib.hid ho4
          clear ho4 hg4 hsz
          go_wp2
          go_roundw
          case rel=>exact⟨k+1,_,_,by omega,by go_num,rfl,HC4,HO4,HB4⟩
          case measure=>simp[intOf];omega
   ·obtain rfl:k=m:=by omega
    have HLO:Hid (O=L):=by
     have:=hcst.out
     rw[←HM.out]at this
     unfold Hid
     rw[←HLL.out];exact this.done.symm
    have HBZ:Hid (Below w.heap.size w wr):=hns.out.env.bel
    have HSS:Hid (w.heap.size≤wk.heap.size):=HNS.out.env.bel.size
    obtain⟨pO,cO,rfl,hiO⟩:=hown.out.inn
    have HOW:=Lib.hid (hown.out.mono HSS.out)
    clear hiO
    rw[HLO.out]at HOW ⊢
    go_wp2
    go_ret2
    exact⟨_,rfl,HOW.out,HBZ.out⟩
 ·have d0:(E !=0)=true:=by simp[h0]
  have HLN:Hid (L=[]):=by unfold Hid;rw[←hL.out];exact nfcL_err (by rw[hE.out];exact h0)
  clear h0
  go_wp2
  go_ret2
  rw[HLN.out]
  exact⟨_,rfl,Ints.nil _ _,HE.out.bel⟩
end Go.Proofs.YtblcoicaeeiojaaGreatDoor
