/- table: rules 3 and 4. table: rule 4. table: the properties t -/
import Derived.Test.YtblcoicaeeiojaaGreatDoorSSiTabH
import Derived.Test.YtblcoicaeeiojaaGreatDoorSSiPmTabC
set_option linter.unusedSimpArgs false
set_option linter.unusedVariables false
namespace Go.Proofs.YtblcoicaeeiojaaGreatDoor
open Go.RowKit
theorem valOut_any (s : Sp) (g1 g2 : Nat) (lo hi : Int) (w : World) (h1 : w.cell? ⟨g1, 0, none⟩ = some (.int .i64 lo)) (h2 : w.cell? ⟨g2, 0, none⟩ = some (.int .i64 hi)) :
  Calls Tryz.prog 256 #[spV s,.pointer (some ⟨g1,0,none⟩),.pointer (some ⟨g2,0,none⟩)] w (Gives (.bool (decide (s.2.2<lo)||decide (hi<s.2.2))) w):=by
 obtain⟨f,t,v⟩:=s
 have l1:=World.block_lt_of_cell? w _ h1
 have l2:=World.block_lt_of_cell? w _ h2
 have H1:=Lib.hid ((World.cell?_alloc_lt w (.cells #[.int .i64 f,.int .i64 t,.int .i64 v] 66) ⟨g1,0,none⟩ l1).trans h1)
 have H2:=Lib.hid ((World.cell?_alloc_lt w (.cells #[.int .i64 f,.int .i64 t,.int .i64 v] 66) ⟨g2,0,none⟩ l2).trans h2)
 clear h1 h2
 obtain⟨B,hB⟩:∃B,(decide (v<lo)||decide (hi<v))=B:=⟨_,rfl⟩
 simp only[spV]
 rw[hB]
 by_cases h:v<lo
 ·have HC:Hid (B=true):=by unfold Hid;rw[←hB];simp[h]
  clear hB
  go_enter Tryz.func256,Tryz.ntmps256
  have c1:=H1.out
  have c2:=H2.out
  go_wp2
  go_ret
  exact⟨by rw[HC.out];rfl,(Below.refl _ _).alloc (Nat.le_refl _) _⟩
 ·have HC:Hid (B=true↔hi<v):=by unfold Hid;rw[←hB];simp[h]
  have hd:decide (v<lo)=false:=decide_eq_false h
  clear h hB
  go_enter Tryz.func256,Tryz.ntmps256
  have c1:=H1.out
  have c2:=H2.out
  go_wp2
  all_goals
   go_ret
   exact⟨iff_ret (by rw[HC.out];first|(simp;done)|(simp;omega)),(Below.refl _ _).alloc (Nat.le_refl _) _⟩
theorem entersVal:∀args w,(callFunc 256 args).run Tryz.prog w = .ok (.enter 256 args) w:=enters_of Tryz.func256 (by kernel_rfl) rfl
theorem testVal (g1 g2 : Nat) (lo hi : Int) (w : World) (h1 : w.cell? ⟨g1, 0, none⟩ = some (.int .i64 lo)) (h2 : w.cell? ⟨g2, 0, none⟩ = some (.int .i64 hi)) :
  TestS 256 #[.pointer (some ⟨g1,0,none⟩),.pointer (some ⟨g2,0,none⟩)] (fun s=>decide (s.2.2<lo)||decide (hi<s.2.2)) w:=fun s W hW =>
 valOut_any s g1 g2 lo hi W ((hW.cell (p:=⟨g1,0,none⟩) (World.block_lt_of_cell? w _ h1)).trans h1) ((hW.cell (p:=⟨g2,0,none⟩) (World.block_lt_of_cell? w _ h2)).trans h2)
theorem valOk_not (lo hi:Int) (l:List Sp):valOk lo hi l = !l.any fun s=>decide (s.2.2<lo)||decide (hi<s.2.2):=by
 rw[valOk,Bool.eq_iff_iff]
 simp only[List.all_eq_true,Bool.and_eq_true,decide_eq_true_eq,Bool.not_eq_true',List.any_eq_false,Bool.or_eq_true,not_or,Int.not_lt]
set_option maxHeartbeats 1000000 in
theorem valuesFrom_at (v0 : Value) (l : List Sp) (lo hi : Int) (B : Bool) (w : World) (hv : SpV w v0 l) (hB : Hid (valOk lo hi l = B)) :
  Calls Tryz.prog 204 #[v0,.int .i64 lo,.int .i64 hi] w (Gives (.bool B) w):=by
 have hb0:Below w.heap.size w ((w.alloc (.cells #[.int .i64 lo] 3)).alloc (.cells #[.int .i64 hi] 3)):=((Below.refl _ _).alloc (Nat.le_refl _) _).alloc (by simp) _
 have HV:=Lib.hid (hv.below hb0)
 have HB0:=Lib.hid hb0
 have c1:((w.alloc (.cells #[.int .i64 lo] 3)).alloc (.cells #[.int .i64 hi] 3)).cell? ⟨w.heap.size,0,none⟩=some (.int .i64 lo):=by simp
 have c2:((w.alloc (.cells #[.int .i64 lo] 3)).alloc (.cells #[.int .i64 hi] 3)).cell? ⟨w.heap.size+1,0,none⟩=some (.int .i64 hi):=by simp
 have HT:=Lib.hid (testVal _ _ lo hi _ c1 c2)
 have hq:l.any (fun s=>decide (s.2.2<lo)||decide (hi<s.2.2)) = !B:=by rw[←hB.out,valOk_not];simp
 have HQ:=Lib.hid hq
 clear hb0 hv c1 c2 hq
 go_enter Tryz.func204,Tryz.ntmps204
 go_wp2_with fail
 refine(conS_any v0 l _ _ _ (!B) _ HV.out HT.out entersVal HQ).mono ?_
 rintro e w1 ⟨rfl,hb⟩
 have HB1:=Lib.hid (HB0.out.trans (hb.mono HB0.out.size))
 clear hb
 go_wp2
 go_ret
 exact⟨by cases B<;>rfl,HB1.out⟩
set_option maxHeartbeats 4000000 in
theorem values_any (x : TV) (T : Tb) (w : World) (hx : TabV w x T) :
  Calls Tryz.prog 142 #[x.agg] w (Gives (.bool (r3 T)) w):=by
 have HE:=Lib.hid (Env.new hx)
 obtain⟨B1,hB1⟩:∃B,Hid (valOk 0 8 T.cat=B):=⟨_,rfl⟩
 obtain⟨B2,hB2⟩:∃B,Hid (valOk 1 254 T.cls=B):=⟨_,rfl⟩
 obtain⟨B3,hB3⟩:∃B,Hid (valOk 0 5 T.joi=B):=⟨_,rfl⟩
 obtain⟨B4,hB4⟩:∃B,Hid (valOk 0 11 T.bid=B):=⟨_,rfl⟩
 obtain⟨B5,hB5⟩:∃B,Hid (valOk 0 60 T.scr=B):=⟨_,rfl⟩
 obtain⟨B6,hB6⟩:∃B,Hid (valOk 0 4 T.sta=B):=⟨_,rfl⟩
 obtain⟨B7,hB7⟩:∃B,Hid (valOk 1 1 T.ign=B):=⟨_,rfl⟩
 have HRR:Hid (r3 T=(B1&&(B2&&(B3&&(B4&&(B5&&(B6&&B7))))))):=by
  unfold Hid r3;rw[hB1.out,hB2.out,hB3.out,hB4.out,hB5.out,hB6.out,hB7.out]
 clear hx
 simp only[TV.agg]
 go_enter Tryz.func142,Tryz.ntmps142
 go_wp2_with fail
 refine(valuesFrom_at x.a0 T.cat 0 8 B1 _ HE.out.tab.cat hB1).mono ?_
 rintro e w1 ⟨rfl,hb⟩
 replace HE:=Lib.hid (HE.out.step hb)
 clear hb
 cases B1 with
 | false=>go_wp2;go_ret;exact⟨by rw[HRR.out];rfl,HE.out.bel⟩
 | true =>
  obtain⟨⟨_,k,_,_,_,_⟩,_⟩:=HE.out.box
  go_wp2_with fail
  refine(valuesFrom_at x.a1 T.cls 1 254 B2 _ HE.out.tab.cls hB2).mono ?_
  rintro e w2 ⟨rfl,hb⟩
  replace HE:=Lib.hid (HE.out.step hb)
  clear hb k
  cases B2 with
  | false=>go_wp2;go_ret;exact⟨by rw[HRR.out];rfl,HE.out.bel⟩
  | true =>
   obtain⟨⟨_,_,k,_,_,_⟩,_⟩:=HE.out.box
   go_wp2_with fail
   refine(valuesFrom_at x.a2 T.joi 0 5 B3 _ HE.out.tab.joi hB3).mono ?_
   rintro e w3 ⟨rfl,hb⟩
   replace HE:=Lib.hid (HE.out.step hb)
   clear hb k
   cases B3 with
   | false=>go_wp2;go_ret;exact⟨by rw[HRR.out];rfl,HE.out.bel⟩
   | true =>
    obtain⟨⟨_,_,_,k,_,_⟩,_⟩:=HE.out.box
    go_wp2_with fail
    refine(valuesFrom_at x.a3 T.bid 0 11 B4 _ HE.out.tab.bid hB4).mono ?_
    rintro e w4 ⟨rfl,hb⟩
    replace HE:=Lib.hid (HE.out.step hb)
    clear hb k
    cases B4 with
    | false=>go_wp2;go_ret;exact⟨by rw[HRR.out];rfl,HE.out.bel⟩
    | true =>
     obtain⟨⟨_,_,_,_,k,_⟩,_⟩:=HE.out.box
     go_wp2_with fail
     refine(valuesFrom_at x.a4 T.scr 0 60 B5 _ HE.out.tab.scr hB5).mono ?_
     rintro e w5 ⟨rfl,hb⟩
     replace HE:=Lib.hid (HE.out.step hb)
     clear hb k
     cases B5 with
     | false=>go_wp2;go_ret;exact⟨by rw[HRR.out];rfl,HE.out.bel⟩
     | true =>
      obtain⟨⟨_,_,_,_,_,k⟩,_⟩:=HE.out.box
      go_wp2_with fail
      refine(valuesFrom_at x.a5 T.sta 0 4 B6 _ HE.out.tab.sta hB6).mono ?_
      rintro e w6 ⟨rfl,hb⟩
      replace HE:=Lib.hid (HE.out.step hb)
      clear hb k
      cases B6 with
      | false=>go_wp2;go_ret;exact⟨by rw[HRR.out];rfl,HE.out.bel⟩
      | true =>
       obtain⟨_,⟨k,_,_,_,_,_⟩⟩:=HE.out.box
       go_wp2_with fail
       refine(valuesFrom_at x.a6 T.ign 1 1 B7 _ HE.out.tab.ign hB7).mono ?_
       rintro e w7 ⟨rfl,hb⟩
       replace HE:=Lib.hid (HE.out.step hb)
       clear hb k
       go_wp2
       go_ret
       exact⟨by rw[HRR.out];rfl,HE.out.bel⟩
def TestL (g:Nat) (p:List Int→Bool) (w:World):Prop :=
 ∀(l:List Int) (v:Value) (W:World),Below w.heap.size w W→InV W v l→Calls Tryz.prog g #[v] W (Gives (.bool (p l)) W)
def sizOk (m:Mp):Bool:=decide (1≤m.2.length)&&decide (m.2.length≤18)
set_option maxRecDepth 100000 in
set_option maxHeartbeats 4000000 in
theorem seqs_any (v0 : Value) (l : List Mp) (g : Nat) (q : List Int → Bool) (w : World) (hv : MpV w v0 l) (hq : TestL g q w) (eg : ∀ args w, (callFunc g args).run Tryz.prog w = .ok (.enter g args) w) :
  Calls Tryz.prog 205 #[v0,.func (.func g) #[] #[]] w (Gives (.bool (l.all fun m=>sizOk m&&q m.2)) w):=by
 obtain⟨p,cp,rfl,hin,hn⟩:=hv
 obtain⟨n,hl⟩:∃n,l.length=n:=⟨_,rfl⟩
 rw[hl]at hn ⊢
 have HI:=Lib.hid hin
 have HL:=Lib.hid hl
 have HQ:=Lib.hid hq
 clear hin hl hq
 go_enter Tryz.func205,Tryz.ntmps205
 go_wp2
 go_loopw [9] (fun i wr=>∃k:Nat,k≤n∧i = .int .i64 k∧Hid ((l.take k).all (fun m=>sizOk m&&q m.2)=true)∧Hid (Below w.heap.size w wr)) (fun i _=>n-(intOf i).toNat)
 case atStart=>exact⟨0,Nat.zero_le _,rfl,by simp[Hid],Below.refl _ _⟩
 case round =>
  obtain⟨k,hk,rfl,hall,hb⟩:=hrel
  by_cases hlt:k<n
  ·have hkl:k<l.length:=by rw[HL.out];exact hlt
   obtain⟨b,off,v,rfl,hc1,hc2,qa,cq,rfl,hi2,hm2⟩:=(HI.out.below hb.out) k hkl
   have hsn:=all_take_snoc (fun m:Mp=>sizOk m&&q m.2) l k mp0 hkl
   rw[hall.out,Bool.true_and]at hsn
   have hno:sizOk (l.getD k mp0)=false∨q (l.getD k mp0).2=false→l.all (fun m=>sizOk m&&q m.2)=false:=fun h=>by
    refine all_of_take _ l (k+1) ?_
    rw[hsn]
    rcases h with h|h
    ·rw[h];rfl
    ·rw[h,Bool.and_false]
   have hsz:sizOk (l.getD k mp0)=(decide (1≤(l.getD k mp0).2.length)&&decide ((l.getD k mp0).2.length≤18)):=rfl
   obtain⟨⟨f,y⟩,hs⟩:∃s,l.getD k mp0=s:=⟨_,rfl⟩
   rw[hs]at hc1 hc2 hsn hno hsz hi2 hm2
   simp only at hc1 hc2 hsn hno hsz hi2 hm2
   obtain⟨m,hm⟩:∃m,y.length=m:=⟨_,rfl⟩
   rw[hm]at hc2 hsz hm2
   have hbb:=hb.out.alloc hb.out.size (.cells #[.int .i64 f,.slice qa m cq] 73)
   have hiv:InV (wr.alloc (.cells #[.int .i64 f,.slice qa m cq] 73)) (.slice qa m cq) y:=⟨qa,cq,by rw[hm],RowIn.alloc hi2 _,by rw[hm];exact hm2⟩
   have HSN:=Lib.hid hsn
   have HNO:=Lib.hid hno
   have HBB:=Lib.hid hbb
   have HIV:=Lib.hid hiv
   have HSZ:=Lib.hid hsz
   clear hs hsn hno hm hi2 hbb hiv hsz
   by_cases h1:m<1
   ·have d1:decide ((m:Int)<1)=true:=decide_eq_true (by omega)
    have HF:=Lib.hid (HNO.out (.inl (by rw[HSZ.out];simp;omega)))
    go_wp2
    go_ret
    rw[HF.out]
    exact⟨rfl,HBB.out⟩
   ·have d1:decide ((m:Int)<1)=false:=decide_eq_false (by omega)
    by_cases h2:18<m
    ·have d2:decide ((18:Int)<(m:Int))=true:=decide_eq_true (by omega)
     have HF:=Lib.hid (HNO.out (.inl (by rw[HSZ.out];simp;omega)))
     go_wp2
     go_ret
     rw[HF.out]
     exact⟨rfl,HBB.out⟩
    ·have d2:decide ((18:Int)<(m:Int))=false:=decide_eq_false (by omega)
     obtain⟨B,hB⟩:∃B,Hid (q y=B):=⟨_,rfl⟩
     have hcall:=HQ.out y _ _ HBB.out HIV.out
     rw[hB.out]at hcall
     have HCALL:=Lib.hid hcall
     have HS1:Hid (sizOk (f,y)=true):=by unfold Hid;rw[HSZ.out];simp;omega
     clear hcall
     cases B with
     | false =>
      have HF:=Lib.hid (HNO.out (.inr hB.out))
      clear h1 h2
      go_wp2_with (go_at_fn g;refine HCALL.out.mono ?_;rintro e w2 ⟨rfl,hb2⟩;have HB2:=Lib.hid (HBB.out.trans (hb2.mono HBB.out.size));clear hb2)
      go_ret
      rw[HF.out]
      exact⟨rfl,HB2.out⟩
     | true =>
      have HT:Hid ((l.take (k+1)).all (fun m=>sizOk m&&q m.2)=true):=by unfold Hid;rw[HSN.out,HS1.out,hB.out];rfl
      clear h1 h2
      go_wp2_with (go_at_fn g;refine HCALL.out.mono ?_;rintro e w2 ⟨rfl,hb2⟩;have HB2:=Lib.hid (HBB.out.trans (hb2.mono HBB.out.size));clear hb2)
      go_roundw
      case rel=>exact⟨k+1,by omega,by go_num,HT,HB2⟩
      case measure=>simp[intOf];omega
  ·obtain rfl:k=n:=by omega
   have HF:Hid (l.all (fun m=>sizOk m&&q m.2)=true):=by
    have:=hall.out
    rwa[List.take_of_length_le (Nat.le_of_eq HL.out)]at this
   go_wp2
   go_ret
   rw[HF.out]
   exact⟨rfl,hb.out⟩
def LenPost (c:Int) (w:World) (e:Ending) (w':World):Prop:=∃n:Int,e = .returned (.int .i64 n)∧(n=0↔scaB c=false)∧w=w'
theorem scaF_iff {c:Int}:scaB c=false↔¬(0≤c∧c≤1114111∧(c<55296∨57343<c)):=by rw[←scaB_iff];simp
set_option maxHeartbeats 1000000 in
theorem len_any (c:Int) (w:World):Calls Tryz.prog 74 #[.int .i64 c] w (LenPost c w):=by
 have HS:=Lib.hid (@scaF_iff c)
 go_enter Tryz.func74,Tryz.ntmps74
 go_wp2
 all_goals
  go_ret
  exact⟨_,rfl,by rw[HS.out];omega,rfl⟩
def notSca (c:Int):Bool := !scaB c
theorem sca1_any (c:Int) (w:World):Calls Tryz.prog 257 #[.int .i64 c] w (Gives (.bool (notSca c)) w):=by
 obtain⟨B,hB⟩:∃B,Hid (scaB c=B):=⟨_,rfl⟩
 have HN:Hid (notSca c = !B):=by unfold Hid notSca;rw[hB.out]
 go_enter Tryz.func257,Tryz.ntmps257
 go_wp2_with fail
 refine(len_any c _).mono ?_
 rintro e w1 ⟨n,rfl,hn,rfl⟩
 rw[hB.out]at hn
 cases B with
 | true =>
  have hz:(n==0)=false:=by simp;simpa using hn
  clear hn
  go_wp2
  go_ret
  exact⟨by rw[HN.out];rfl,Below.refl _ _⟩
 | false =>
  have hz:(n==0)=true:=by simpa using hn
  clear hn
  go_wp2
  go_ret
  exact⟨by rw[HN.out];rfl,Below.refl _ _⟩
theorem testSca (w:World):TestI 257 #[] notSca w:=fun c W _=>sca1_any c W
theorem entersSca1:∀args w,(callFunc 257 args).run Tryz.prog w = .ok (.enter 257 args) w:=enters_of Tryz.func257 (by kernel_rfl) rfl
theorem entersSca:∀args w,(callFunc 208 args).run Tryz.prog w = .ok (.enter 208 args) w:=enters_of Tryz.func208 (by kernel_rfl) rfl
theorem entersExt:∀args w,(callFunc 206 args).run Tryz.prog w = .ok (.enter 206 args) w:=enters_of Tryz.func206 (by kernel_rfl) rfl
theorem sca_any (v0:Value) (l:List Int) (w:World) (hv:InV w v0 l):Calls Tryz.prog 208 #[v0] w (Gives (.bool (l.all scaB)) w):=by
 obtain⟨B,hB⟩:∃B,Hid (l.any notSca=B):=⟨_,rfl⟩
 have HN:Hid (l.all scaB = !B):=by unfold Hid;rw[←not_any hB.out];congr 1;funext c;simp[notSca]
 have HV:=Lib.hid hv
 clear hv
 go_enter Tryz.func208,Tryz.ntmps208
 go_wp2_with fail
 refine(conI_any v0 l 257 #[] notSca B _ HV.out (testSca _) entersSca1 hB).mono ?_
 rintro e w1 ⟨rfl,hb⟩
 have HB:=Lib.hid hb
 clear hb
 go_wp2
 go_ret
 exact⟨by rw[HN.out];rfl,HB.out⟩
theorem ext_any (v0:Value) (l:List Int) (w:World) (hv:InV w v0 l):Calls Tryz.prog 206 #[v0] w (Gives (.bool (ascI 3 60 l)) w):=by
 obtain⟨B,hB⟩:∃B,Hid (ascI 3 60 l=B):=⟨_,rfl⟩
 have HV:=Lib.hid hv
 clear hv
 go_enter Tryz.func206,Tryz.ntmps206
 go_wp2_with fail
 refine(asc_at v0 l 3 60 B _ HV.out hB).mono ?_
 rintro e w1 ⟨rfl,rfl⟩
 go_wp2
 go_ret
 exact⟨by rw[hB.out];rfl,Below.refl _ _⟩
theorem testL_sca (w:World):TestL 208 (fun l=>l.all scaB) w:=fun l v W _ hv=>sca_any v l W hv
theorem testL_ext (w:World):TestL 206 (ascI 3 60) w:=fun l v W _ hv=>ext_any v l W hv
theorem seqE_all (l:List Mp):(l.all fun m=>sizOk m&&ascI 3 60 m.2)=l.all seqE:=rfl
theorem seqS_all (l:List Mp):(l.all fun m=>sizOk m&&m.2.all scaB)=l.all seqS:=rfl
theorem seqsE_at (v0 : Value) (l : List Mp) (B : Bool) (w : World) (hv : MpV w v0 l) (hB : Hid (l.all seqE = B)) :
  Calls Tryz.prog 205 #[v0,.func (.func 206) #[] #[]] w (Gives (.bool B) w):=by
 rw[←hB.out,←seqE_all];exact seqs_any v0 l _ _ w hv (testL_ext w) entersExt
theorem seqsS_at (v0 : Value) (l : List Mp) (B : Bool) (w : World) (hv : MpV w v0 l) (hB : Hid (l.all seqS = B)) :
  Calls Tryz.prog 205 #[v0,.func (.func 208) #[] #[]] w (Gives (.bool B) w):=by
 rw[←hB.out,←seqS_all];exact seqs_any v0 l _ _ w hv (testL_sca w) entersSca
set_option maxHeartbeats 4000000 in
theorem seqsIn_any (x : TV) (T : Tb) (w : World) (hx : TabV w x T) :
  Calls Tryz.prog 143 #[x.agg] w (Gives (.bool (r4 T)) w):=by
 have HE:=Lib.hid (Env.new hx)
 obtain⟨B1,hB1⟩:∃B,Hid (T.ext.all seqE=B):=⟨_,rfl⟩
 obtain⟨B2,hB2⟩:∃B,Hid (T.map.all seqS=B):=⟨_,rfl⟩
 obtain⟨B3,hB3⟩:∃B,Hid (T.dec.all seqS=B):=⟨_,rfl⟩
 obtain⟨B4,hB4⟩:∃B,Hid (T.pro.all seqS=B):=⟨_,rfl⟩
 have HRR:Hid (r4 T=(B1&&(B2&&(B3&&B4)))):=by
  unfold Hid r4;rw[hB1.out,hB2.out,hB3.out,hB4.out]
 clear hx
 simp only[TV.agg]
 go_enter Tryz.func143,Tryz.ntmps143
 go_wp2_with fail
 refine(seqsE_at x.a7 T.ext B1 _ HE.out.tab.ext hB1).mono ?_
 rintro e w1 ⟨rfl,hb⟩
 replace HE:=Lib.hid (HE.out.step hb)
 clear hb
 cases B1 with
 | false=>go_wp2;go_ret;exact⟨by rw[HRR.out];rfl,HE.out.bel⟩
 | true =>
  obtain⟨_,⟨_,_,k,_,_,_⟩⟩:=HE.out.box
  go_wp2_with fail
  refine(seqsS_at x.a8 T.map B2 _ HE.out.tab.map hB2).mono ?_
  rintro e w2 ⟨rfl,hb⟩
  replace HE:=Lib.hid (HE.out.step hb)
  clear hb k
  cases B2 with
  | false=>go_wp2;go_ret;exact⟨by rw[HRR.out];rfl,HE.out.bel⟩
  | true =>
   obtain⟨_,⟨_,_,_,k,_,_⟩⟩:=HE.out.box
   go_wp2_with fail
   refine(seqsS_at x.a9 T.dec B3 _ HE.out.tab.dec hB3).mono ?_
   rintro e w3 ⟨rfl,hb⟩
   replace HE:=Lib.hid (HE.out.step hb)
   clear hb k
   cases B3 with
   | false=>go_wp2;go_ret;exact⟨by rw[HRR.out];rfl,HE.out.bel⟩
   | true =>
    obtain⟨_,⟨_,_,_,_,_,k⟩⟩:=HE.out.box
    go_wp2_with fail
    refine(seqsS_at x.a11 T.pro B4 _ HE.out.tab.pro hB4).mono ?_
    rintro e w4 ⟨rfl,hb⟩
    replace HE:=Lib.hid (HE.out.step hb)
    clear hb k
    go_wp2
    go_ret
    exact⟨by rw[HRR.out];rfl,HE.out.bel⟩
theorem fixed_at (c a b s t : Int) (w : World) (h1 : Hid (fixC c = a)) (h2 : Hid (fixB c = b)) (h3 : Hid (fixS c = s)) (h4 : Hid (fixT c = t)) :
  Calls Tryz.prog 221 #[.int .i64 c] w (Gives (.agg #[.int .i64 a,.int .i64 b,.int .i64 s,.int .i64 t]) w) :=
 (fixed_any c w).mono fun e w' h=>by rw[←h1.out,←h2.out,←h3.out,←h4.out];exact h
theorem drew_one (w:World):Below w.heap.size w w.drew:=⟨rfl,rfl,rfl,Nat.le_refl _,fun _ _=>rfl⟩
theorem Env.at5 {w0 w:World} {x:TV} {T:Tb} (h:Env w0 x T w):w.cell? ⟨w0.heap.size,5,none⟩=some x.a5:=h.box.1.2.2.2.2.2
theorem Env.at4 {w0 w:World} {x:TV} {T:Tb} (h:Env w0 x T w):w.cell? ⟨w0.heap.size,4,none⟩=some x.a4:=h.box.1.2.2.2.2.1
theorem Env.at3 {w0 w:World} {x:TV} {T:Tb} (h:Env w0 x T w):w.cell? ⟨w0.heap.size,3,none⟩=some x.a3:=h.box.1.2.2.2.1
theorem Env.at2 {w0 w:World} {x:TV} {T:Tb} (h:Env w0 x T w):w.cell? ⟨w0.heap.size,2,none⟩=some x.a2:=h.box.1.2.2.1
theorem Env.at1 {w0 w:World} {x:TV} {T:Tb} (h:Env w0 x T w):w.cell? ⟨w0.heap.size,1,none⟩=some x.a1:=h.box.1.2.1
theorem Env.at0 {w0 w:World} {x:TV} {T:Tb} (h:Env w0 x T w):w.cell? ⟨w0.heap.size,0,none⟩=some x.a0:=h.box.1.1
theorem Env.at6 {w0 w:World} {x:TV} {T:Tb} (h:Env w0 x T w):w.cell? ⟨w0.heap.size,6,none⟩=some x.a6:=h.box.2.1
theorem Env.at7 {w0 w:World} {x:TV} {T:Tb} (h:Env w0 x T w):w.cell? ⟨w0.heap.size,7,none⟩=some x.a7:=h.box.2.2.1
theorem Env.at8 {w0 w:World} {x:TV} {T:Tb} (h:Env w0 x T w):w.cell? ⟨w0.heap.size,8,none⟩=some x.a8:=h.box.2.2.2.1
theorem Env.at9 {w0 w:World} {x:TV} {T:Tb} (h:Env w0 x T w):w.cell? ⟨w0.heap.size,9,none⟩=some x.a9:=h.box.2.2.2.2.1
theorem Env.at10 {w0 w:World} {x:TV} {T:Tb} (h:Env w0 x T w):w.cell? ⟨w0.heap.size,10,none⟩=some x.a10:=h.box.2.2.2.2.2.1
theorem Env.at11 {w0 w:World} {x:TV} {T:Tb} (h:Env w0 x T w):w.cell? ⟨w0.heap.size,11,none⟩=some x.a11:=h.box.2.2.2.2.2.2
set_option maxHeartbeats 2000000 in
theorem status_at (x : TV) (T : Tb) (c z : Int) (w : World) (hx : TabV w x T) (ha : ascB 0 T.sta = true) (hz : Hid (staT T c = z)) :
  Calls Tryz.prog 151 #[x.agg,.int .i64 c] w (Gives (.int .i64 z) w):=by
 have HE:=Lib.hid ((Env.new hx).step (drew_one _))
 have k:=(Env.new hx).at5
 have HA:=Lib.hid ha
 obtain⟨fc,h1⟩:∃z,Hid (fixC c=z):=⟨_,rfl⟩
 obtain⟨fb,h2⟩:∃z,Hid (fixB c=z):=⟨_,rfl⟩
 obtain⟨fs,h3⟩:∃z,Hid (fixS c=z):=⟨_,rfl⟩
 obtain⟨ft,h4⟩:∃z,Hid (fixT c=z):=⟨_,rfl⟩
 have hzz:Hid ((val T.sta c).getD ft=z):=by unfold Hid;rw[←hz.out,←h4.out];rfl
 have hfld:∀w,(Instr.field 185 (.agg #[.int .i64 fc,.int .i64 fb,.int .i64 fs,.int .i64 ft]) 3).run Tryz.prog w = .ok (.int .i64 ft) w:=fun _=>by kernel_rfl
 clear hx ha
 simp only[TV.agg]
 go_enter Tryz.func151,Tryz.ntmps151
 go_wp2_with fail
 go_region_held3 (fun w'=>w'.cell? ⟨w.heap.size,5,none⟩=some x.a5)
  (first
   | go_keep
   | exact((HE.out.step hb2).step hb3).at5
   | exact(HE.out.step hb2).at5)
  (first
   | (go_at_call 221;(with_reducible refine(fixed_at c fc fb fs ft _ h1 h2 h3 h4).mono ?_);rintro e w2 ⟨rfl,hb2⟩)
   | (go_at_call 220;(with_reducible refine(valueOr_at x.a5 T.sta c ft z _ (HE.out.step hb2).tab.sta HA.out hzz).mono ?_);rintro e w3 ⟨rfl,hb3⟩))
 all_goals
  go_wp2
  go_ret
  exact⟨rfl,((HE.out.step hb2).step hb3).bel⟩
set_option maxHeartbeats 2000000 in
theorem category_at (x : TV) (T : Tb) (c z : Int) (w : World) (hx : TabV w x T) (ha : ascB 0 T.cat = true) (hz : Hid (catT T c = z)) :
  Calls Tryz.prog 163 #[x.agg,.int .i64 c] w (Gives (.int .i64 z) w):=by
 have HE:=Lib.hid ((Env.new hx).step (drew_one _))
 have k:=(Env.new hx).at0
 have HA:=Lib.hid ha
 obtain⟨fc,h1⟩:∃z,Hid (fixC c=z):=⟨_,rfl⟩
 obtain⟨fb,h2⟩:∃z,Hid (fixB c=z):=⟨_,rfl⟩
 obtain⟨fs,h3⟩:∃z,Hid (fixS c=z):=⟨_,rfl⟩
 obtain⟨ft,h4⟩:∃z,Hid (fixT c=z):=⟨_,rfl⟩
 have hzz:Hid ((val T.cat c).getD fc=z):=by unfold Hid;rw[←hz.out,←h1.out];rfl
 have hfld:∀w,(Instr.field 185 (.agg #[.int .i64 fc,.int .i64 fb,.int .i64 fs,.int .i64 ft]) 0).run Tryz.prog w = .ok (.int .i64 fc) w:=fun _=>by kernel_rfl
 clear hx ha
 simp only[TV.agg]
 go_enter Tryz.func163,Tryz.ntmps163
 go_wp2_with fail
 go_region_held3 (fun w'=>w'.cell? ⟨w.heap.size,0,none⟩=some x.a0)
  (first
   | go_keep
   | exact((HE.out.step hb2).step hb3).at0
   | exact(HE.out.step hb2).at0)
  (first
   | (go_at_call 221;(with_reducible refine(fixed_at c fc fb fs ft _ h1 h2 h3 h4).mono ?_);rintro e w2 ⟨rfl,hb2⟩)
   | (go_at_call 220;(with_reducible refine(valueOr_at x.a0 T.cat c fc z _ (HE.out.step hb2).tab.cat HA.out hzz).mono ?_);rintro e w3 ⟨rfl,hb3⟩))
 all_goals
  go_wp2
  go_ret
  exact⟨rfl,((HE.out.step hb2).step hb3).bel⟩
set_option maxHeartbeats 2000000 in
theorem script_at (x : TV) (T : Tb) (c z : Int) (w : World) (hx : TabV w x T) (ha : ascB 0 T.scr = true) (hz : Hid (scrT T c = z)) :
  Calls Tryz.prog 276 #[x.agg,.int .i64 c] w (Gives (.int .i64 z) w):=by
 have HE:=Lib.hid ((Env.new hx).step (drew_one _))
 have k:=(Env.new hx).at4
 have HA:=Lib.hid ha
 obtain⟨fc,h1⟩:∃z,Hid (fixC c=z):=⟨_,rfl⟩
 obtain⟨fb,h2⟩:∃z,Hid (fixB c=z):=⟨_,rfl⟩
 obtain⟨fs,h3⟩:∃z,Hid (fixS c=z):=⟨_,rfl⟩
 obtain⟨ft,h4⟩:∃z,Hid (fixT c=z):=⟨_,rfl⟩
 have hzz:Hid ((val T.scr c).getD fs=z):=by unfold Hid;rw[←hz.out,←h3.out];rfl
 have hfld:∀w,(Instr.field 185 (.agg #[.int .i64 fc,.int .i64 fb,.int .i64 fs,.int .i64 ft]) 2).run Tryz.prog w = .ok (.int .i64 fs) w:=fun _=>by kernel_rfl
 clear hx ha
 simp only[TV.agg]
 go_enter Tryz.func276,Tryz.ntmps276
 go_wp2_with fail
 go_region_held3 (fun w'=>w'.cell? ⟨w.heap.size,4,none⟩=some x.a4)
  (first
   | go_keep
   | exact((HE.out.step hb2).step hb3).at4
   | exact(HE.out.step hb2).at4)
  (first
   | (go_at_call 221;(with_reducible refine(fixed_at c fc fb fs ft _ h1 h2 h3 h4).mono ?_);rintro e w2 ⟨rfl,hb2⟩)
   | (go_at_call 220;(with_reducible refine(valueOr_at x.a4 T.scr c fs z _ (HE.out.step hb2).tab.scr HA.out hzz).mono ?_);rintro e w3 ⟨rfl,hb3⟩))
 all_goals
  go_wp2
  go_ret
  exact⟨rfl,((HE.out.step hb2).step hb3).bel⟩
end Go.Proofs.YtblcoicaeeiojaaGreatDoor
