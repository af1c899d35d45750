/-
  table: rules 1 and 2.
-/
import Derived.Test.YtblcoicaeeiojaaGreatDoorSSiPmTabC
import Derived.Test.YtblcoicaeeiojaaGreatDoorSSiPmRanChk
set_option linter.unusedSimpArgs false
set_option linter.unusedVariables false
namespace Go.Proofs.YtblcoicaeeiojaaGreatDoor
open Go.RowKit
theorem SpV.shape {w:World} {v:Value} {l:List Sp} (h:SpV w v l):∃p c,v = .slice p l.length c:=by
 obtain⟨p,c,e,_⟩:=h;exact⟨p,c,e⟩
theorem MpV.shape {w:World} {v:Value} {l:List Mp} (h:MpV w v l):∃p c,v = .slice p l.length c:=by
 obtain⟨p,c,e,_⟩:=h;exact⟨p,c,e⟩
theorem InV.shape {w:World} {v:Value} {l:List Int} (h:InV w v l):∃p c,v = .slice p l.length c:=by
 obtain⟨p,c,e,_⟩:=h;exact⟨p,c,e⟩
def Slc (v:Value):Prop:=∃p n c,v = .slice p n c
theorem SpV.slc {w:World} {v:Value} {l:List Sp} (h:SpV w v l):Slc v:=by obtain⟨p,c,e⟩:=h.shape;exact⟨p,_,c,e⟩
theorem MpV.slc {w:World} {v:Value} {l:List Mp} (h:MpV w v l):Slc v:=by obtain⟨p,c,e⟩:=h.shape;exact⟨p,_,c,e⟩
theorem InV.slc {w:World} {v:Value} {l:List Int} (h:InV w v l):Slc v:=by obtain⟨p,c,e⟩:=h.shape;exact⟨p,_,c,e⟩
abbrev seven (x:TV):Value := .agg #[x.a0,x.a1,x.a2,x.a3,x.a4,x.a5,x.a6]
abbrev four (x:TV):Value := .agg #[x.a7,x.a8,x.a9,x.a11]
set_option maxHeartbeats 2000000 in
theorem spanLists_any (x : TV) (T : Tb) (w : World) (hx : TabV w x T) :
  Calls Tryz.prog 194 #[x.agg] w (Gives (seven x) w):=by
 obtain⟨a0,a1,a2,a3,a4,a5,a6,a7,a8,a9,a10,a11⟩:=x
 obtain⟨p0,n0,c0,rfl⟩:=hx.cat.slc
 obtain⟨p1,n1,c1,rfl⟩:=hx.cls.slc
 obtain⟨p2,n2,c2,rfl⟩:=hx.joi.slc
 obtain⟨p3,n3,c3,rfl⟩:=hx.bid.slc
 obtain⟨p4,n4,c4,rfl⟩:=hx.scr.slc
 obtain⟨p5,n5,c5,rfl⟩:=hx.sta.slc
 obtain⟨p6,n6,c6,rfl⟩:=hx.ign.slc
 clear hx
 simp only[TV.agg,seven]
 go_enter Tryz.func194,Tryz.ntmps194
 go_wp2
 exact bodyPost_ret (v := .agg #[.slice p0 n0 c0,.slice p1 n1 c1,.slice p2 n2 c2,.slice p3 n3 c3,.slice p4 n4 c4,.slice p5 n5 c5,.slice p6 n6 c6]) (by simp[results,Tryz.results194,go_sem]) rfl ⟨rfl,((Below.refl _ _).alloc (Nat.le_refl _) _).alloc (by simp) _⟩
set_option maxHeartbeats 2000000 in
theorem mappingLists_any (x : TV) (T : Tb) (w : World) (hx : TabV w x T) :
  Calls Tryz.prog 195 #[x.agg] w (Gives (four x) w):=by
 obtain⟨a0,a1,a2,a3,a4,a5,a6,a7,a8,a9,a10,a11⟩:=x
 obtain⟨p0,n0,c0,rfl⟩:=hx.ext.slc
 obtain⟨p1,n1,c1,rfl⟩:=hx.map.slc
 obtain⟨p2,n2,c2,rfl⟩:=hx.dec.slc
 obtain⟨p3,n3,c3,rfl⟩:=hx.pro.slc
 clear hx
 simp only[TV.agg,four]
 go_enter Tryz.func195,Tryz.ntmps195
 go_wp2
 exact bodyPost_ret (v := .agg #[.slice p0 n0 c0,.slice p1 n1 c1,.slice p2 n2 c2,.slice p3 n3 c3]) (by simp[results,Tryz.results195,go_sem]) rfl ⟨rfl,((Below.refl _ _).alloc (Nat.le_refl _) _).alloc (by simp) _⟩
def spVal (x:TV) (k:Nat):Value:=[x.a0,x.a1,x.a2,x.a3,x.a4,x.a5,x.a6].getD k x.a0
def mpVal (x:TV) (k:Nat):Value:=[x.a7,x.a8,x.a9,x.a11].getD k x.a7
theorem seven_index (x : TV) (k : Nat) (hk : k < 7) (w : World) :
  (Instr.index 168 (.agg #[x.a0,x.a1,x.a2,x.a3,x.a4,x.a5,x.a6]) (.int .i64 k)).run Tryz.prog w = .ok (spVal x k) w:=by
 have h:k=0∨k=1∨k=2∨k=3∨k=4∨k=5∨k=6:=by omega
 rcases h with rfl|rfl|rfl|rfl|rfl|rfl|rfl
 ·exact(show (Instr.index 168 (seven x) (.int .i64 0)).run Tryz.prog w = .ok x.a0 w by kernel_rfl)
 ·exact(show (Instr.index 168 (seven x) (.int .i64 1)).run Tryz.prog w = .ok x.a1 w by kernel_rfl)
 ·exact(show (Instr.index 168 (seven x) (.int .i64 2)).run Tryz.prog w = .ok x.a2 w by kernel_rfl)
 ·exact(show (Instr.index 168 (seven x) (.int .i64 3)).run Tryz.prog w = .ok x.a3 w by kernel_rfl)
 ·exact(show (Instr.index 168 (seven x) (.int .i64 4)).run Tryz.prog w = .ok x.a4 w by kernel_rfl)
 ·exact(show (Instr.index 168 (seven x) (.int .i64 5)).run Tryz.prog w = .ok x.a5 w by kernel_rfl)
 ·exact(show (Instr.index 168 (seven x) (.int .i64 6)).run Tryz.prog w = .ok x.a6 w by kernel_rfl)
theorem four_index (x : TV) (k : Nat) (hk : k < 4) (w : World) :
  (Instr.index 170 (.agg #[x.a7,x.a8,x.a9,x.a11]) (.int .i64 k)).run Tryz.prog w = .ok (mpVal x k) w:=by
 have h:k=0∨k=1∨k=2∨k=3:=by omega
 rcases h with rfl|rfl|rfl|rfl
 ·exact(show (Instr.index 170 (four x) (.int .i64 0)).run Tryz.prog w = .ok x.a7 w by kernel_rfl)
 ·exact(show (Instr.index 170 (four x) (.int .i64 1)).run Tryz.prog w = .ok x.a8 w by kernel_rfl)
 ·exact(show (Instr.index 170 (four x) (.int .i64 2)).run Tryz.prog w = .ok x.a9 w by kernel_rfl)
 ·exact(show (Instr.index 170 (four x) (.int .i64 3)).run Tryz.prog w = .ok x.a11 w by kernel_rfl)
theorem TabV.sp {w:World} {x:TV} {T:Tb} (h:TabV w x T) (k:Nat) (hk:k<7):SpV w (spVal x k) ((spansT T).getD k []):=by
 have h':k=0∨k=1∨k=2∨k=3∨k=4∨k=5∨k=6:=by omega
 rcases h' with rfl|rfl|rfl|rfl|rfl|rfl|rfl
 ·exact h.cat
 ·exact h.cls
 ·exact h.joi
 ·exact h.bid
 ·exact h.scr
 ·exact h.sta
 ·exact h.ign
theorem TabV.mp {w:World} {x:TV} {T:Tb} (h:TabV w x T) (k:Nat) (hk:k<4):MpV w (mpVal x k) ((mpsT T).getD k []):=by
 have h':k=0∨k=1∨k=2∨k=3:=by omega
 rcases h' with rfl|rfl|rfl|rfl
 ·exact h.ext
 ·exact h.map
 ·exact h.dec
 ·exact h.pro
theorem sp_step {T:Tb} {k:Nat} (q:List Sp→Bool) (hk:k<7) (h:((spansT T).take k).all q=true):((spansT T).take (k+1)).all q=q ((spansT T).getD k []):=by
 rw[all_take_snoc q (spansT T) k [] (by simpa[spansT] using hk),h,Bool.true_and]
theorem mp_step {T:Tb} {k:Nat} (q:List Mp→Bool) (hk:k<4) (h:((mpsT T).take k).all q=true):((mpsT T).take (k+1)).all q=q ((mpsT T).getD k []):=by
 rw[all_take_snoc q (mpsT T) k [] (by simpa[mpsT] using hk),h,Bool.true_and]
theorem seven_at {w0 : World} {x : TV} {T : Tb} (h : TabV w0 x T) (k : Nat) (hk : k < 7) : ∃ p n c l, (spansT T).getD k [] = l ∧ l.length = n ∧ n ≤ 17592186043904 ∧ SpIn w0 p l ∧
  ∀w,(Instr.index 168 (.agg #[x.a0,x.a1,x.a2,x.a3,x.a4,x.a5,x.a6]) (.int .i64 k)).run Tryz.prog w = .ok (.slice p n c) w:=by
 obtain⟨p,c,e,h1,h2⟩:=h.sp k hk
 exact⟨p,_,c,_,rfl,rfl,h2,h1,fun w=>by rw[seven_index x k hk w,e]⟩
theorem four_at {w0 : World} {x : TV} {T : Tb} (h : TabV w0 x T) (k : Nat) (hk : k < 4) : ∃ p n c l, (mpsT T).getD k [] = l ∧ l.length = n ∧ n ≤ 17592186043904 ∧ MpIn w0 p l ∧
  ∀w,(Instr.index 170 (.agg #[x.a7,x.a8,x.a9,x.a11]) (.int .i64 k)).run Tryz.prog w = .ok (.slice p n c) w:=by
 obtain⟨p,c,e,h1,h2⟩:=h.mp k hk
 exact⟨p,_,c,_,rfl,rfl,h2,h1,fun w=>by rw[four_index x k hk w,e]⟩
theorem spansT_len (T:Tb):(spansT T).length=7:=rfl
theorem mpsT_len (T:Tb):(mpsT T).length=4:=rfl
set_option maxHeartbeats 4000000 in
theorem rowsFew_any (x : TV) (T : Tb) (w : World) (hx : TabV w x T) :
  Calls Tryz.prog 140 #[x.agg] w (Gives (.bool (r1 T)) w):=by
 have HX:=Lib.hid hx
 obtain⟨pe,ce,he,_,hel⟩:=hx.exc
 obtain⟨ne,hne⟩:∃n,T.exc.length=n:=⟨_,rfl⟩
 rw[hne]at he hel
 have HE:=Lib.hid he
 have HN:=Lib.hid hne
 clear hx he hne
 simp only[TV.agg]
 go_enter Tryz.func140,Tryz.ntmps140
 go_wp2_with fail
 have hX1:=HX.out.alloc (.cells (tabCells x) 26)
 have hbox:=BoxT.new w x 26
 have hb0:Below w.heap.size w (w.alloc (.cells (tabCells x) 26)):=(Below.refl _ _).alloc (Nat.le_refl _) _
 refine(spanLists_any x T _ hX1).mono ?_
 rintro e w1 ⟨rfl,hb1⟩
 have HB1:=Lib.hid (hb0.trans (hb1.mono hb0.size))
 have HBOX:=Lib.hid (hbox.below hb1)
 clear hX1 hbox hb0 hb1
 simp only[seven]
 go_wp2
 go_loop [4,9] (fun v i=>∃k:Nat,k≤7∧i = .int .i64 k∧Hid (((spansT T).take k).all fewS=true)) (fun _ i=>7-(intOf i).toNat)
 case atStart=>exact⟨0,by omega,rfl,rfl⟩
 case round =>
  obtain⟨k,hk,rfl,hall⟩:=hrel
  by_cases hlt:k<7
  ·obtain⟨p,n,c,l,hl,hln,hn,_,hix⟩:=seven_at HX.out k hlt
   have hst:=sp_step fewS hlt hall.out
   rw[hl,fewS,hln]at hst
   have HS:=Lib.hid hst
   clear hl hln hst
   by_cases hbig:256<n
   ·have HF:Hid (r1 T=false):=by
     unfold Hid r1
     rw[all_of_take fewS (spansT T) (k+1) (by rw[HS.out];simp;omega)];rfl
    go_wp2
    go_ret
    rw[HF.out]
    exact⟨rfl,HB1.out⟩
   ·have HT:Hid (((spansT T).take (k+1)).all fewS=true):=by unfold Hid;rw[HS.out];simp;omega
    go_wp2
    go_round
    case rel=>exact⟨k+1,by omega,by go_num,HT⟩
    case measure=>simp[intOf];omega
  ·obtain rfl:k=7:=by omega
   have HS7:Hid ((spansT T).all fewS=true):=by
    have:=hall.out
    rwa[List.take_of_length_le (Nat.le_of_eq (spansT_len T))]at this
   obtain⟨⟨k0,k1,k2,k3,k4,k5⟩,⟨k6,k7,k8,k9,k10,k11⟩⟩:=HBOX.out
   have hX1:=Lib.hid (HX.out.below HB1.out)
   go_wp2_with fail
   refine(mappingLists_any x T _ hX1.out).mono ?_
   rintro e w2 ⟨rfl,hb2⟩
   have HB2:=Lib.hid (HB1.out.trans (hb2.mono HB1.out.size))
   have HBOX2:=Lib.hid (HBOX.out.below hb2)
   clear hb2 k0 k1 k2 k3 k4 k5 k6 k7 k8 k9 k10 k11
   simp only[four]
   go_wp2
   go_loop [6,18] (fun v i=>∃k:Nat,k≤4∧i = .int .i64 k∧Hid (((mpsT T).take k).all fewM=true)) (fun _ i=>4-(intOf i).toNat)
   case atStart=>exact⟨0,by omega,rfl,rfl⟩
   case round =>
    obtain⟨k,hk,rfl,hall⟩:=hrel
    by_cases hlt:k<4
    ·obtain⟨p,n,c,l,hl,hln,hn,_,hix⟩:=four_at HX.out k hlt
     have hst:=mp_step fewM hlt hall.out
     rw[hl,fewM,hln]at hst
     have HS:=Lib.hid hst
     clear hl hln hst
     by_cases hbig:256<n
     ·have HF:Hid (r1 T=false):=by
       unfold Hid r1
       rw[all_of_take fewM (mpsT T) (k+1) (by rw[HS.out];simp;omega)]
       simp
      go_wp2
      go_ret
      rw[HF.out]
      exact⟨rfl,HB2.out⟩
     ·have HT:Hid (((mpsT T).take (k+1)).all fewM=true):=by unfold Hid;rw[HS.out];simp;omega
      go_wp2
      go_round
      case rel=>exact⟨k+1,by omega,by go_num,HT⟩
      case measure=>simp[intOf];omega
    ·obtain rfl:k=4:=by omega
     have HM4:Hid ((mpsT T).all fewM=true):=by
      have:=hall.out
      rwa[List.take_of_length_le (Nat.le_of_eq (mpsT_len T))]at this
     have HR:Hid (r1 T=decide (ne≤256)):=by unfold Hid r1;rw[HS7.out,HM4.out,HN.out];rfl
     obtain⟨_,⟨_,_,_,_,k10,_⟩⟩:=HBOX2.out
     rw[HE.out]at k10
     go_wp2
     go_ret
     exact⟨iff_ret (by rw[HR.out];simp only[decide_eq_true_eq];omega),HB2.out⟩
structure Env (w0:World) (x:TV) (T:Tb) (w:World):Prop where
 tab:TabV w x T
 box:BoxT w w0.heap.size x
 bel:Below w0.heap.size w0 w
theorem Env.new {w:World} {x:TV} {T:Tb} (h:TabV w x T):Env w x T (w.alloc (.cells (tabCells x) 26)) :=
 ⟨h.alloc _,BoxT.new w x _,(Below.refl _ _).alloc (Nat.le_refl _) _⟩
theorem Env.step {w0 w w':World} {x:TV} {T:Tb} (h:Env w0 x T w) (hb:Below w.heap.size w w'):Env w0 x T w' :=
 ⟨h.tab.below hb,h.box.below hb,h.bel.trans (hb.mono h.bel.size)⟩
theorem testRes (w:World) (hr:Rsv w):TestI 202 #[] resB w:=fun c W hW=>isRes_any c W (hr.below hW)
theorem testResP (w:World) (hr:Rsv w):TestI 203 #[] resP w:=fun c W hW=>resP_any c W (hr.below hW)
theorem entersRes:∀args w,(callFunc 202 args).run Tryz.prog w = .ok (.enter 202 args) w:=enters_of Tryz.func202 (by kernel_rfl) rfl
theorem entersResP:∀args w,(callFunc 203 args).run Tryz.prog w = .ok (.enter 203 args) w:=enters_of Tryz.func203 (by kernel_rfl) rfl
theorem entersOrd:∀args w,(callFunc 198 args).run Tryz.prog w = .ok (.enter 198 args) w:=enters_of Tryz.func198 (by kernel_rfl) rfl
theorem ordRes_any (s:Sp) (w:World) (hr:Rsv w):Calls Tryz.prog 198 #[spV s] w (Gives (.bool (resF s.1 s.2.1)) w):=by
 obtain⟨f,t,v⟩:=s
 have HR:=Lib.hid (hr.below ((Below.refl _ _).alloc (Nat.le_refl _) (.cells #[.int .i64 f,.int .i64 t,.int .i64 v] 66)))
 obtain⟨B,hB⟩:∃B,Hid (resF f t=B):=⟨_,rfl⟩
 clear hr
 simp only[spV]
 go_enter Tryz.func198,Tryz.ntmps198
 go_wp2_with fail
 refine(conRes_at f t B _ HR.out hB).mono ?_
 rintro e w1 ⟨rfl,hb⟩
 have HB:=Lib.hid (((Below.refl w.heap.size w).alloc (Nat.le_refl _) _).trans (hb.mono (by simp)))
 clear hb
 go_wp2
 go_ret
 exact⟨by rw[hB.out];rfl,HB.out⟩
theorem testOrd (w:World) (hr:Rsv w):TestS 198 #[] (fun s=>resF s.1 s.2.1) w:=fun s W hW=>ordRes_any s W (hr.below hW)
theorem few_sp {T:Tb} (h:r1 T=true) (k:Nat) (hk:k<7):((spansT T).getD k []).length≤256:=by
 simp only[r1,Bool.and_eq_true,List.all_eq_true]at h
 have hl:k<(spansT T).length:=by rw[spansT_len];exact hk
 have:=h.1 _ (List.getElem_mem hl)
 rw[fewS,decide_eq_true_eq]at this
 rw[List.getD_eq_getElem?_getD,List.getElem?_eq_getElem hl]
 exact this
theorem few_mp {T:Tb} (h:r1 T=true):T.ext.length≤256∧T.map.length≤256∧T.dec.length≤256∧T.pro.length≤256∧T.exc.length≤256:=by
 simp only[r1,mpsT,Bool.and_eq_true,List.all_cons,List.all_nil,fewM,decide_eq_true_eq]at h
 exact⟨h.2.1.1,h.2.1.2.1,h.2.1.2.2.1,h.2.1.2.2.2.1,h.2.2⟩
theorem spOk_valid {l:List Sp} (h:l.length≤256):checkS l 0 1114111=ascB 0 l:=by
 unfold checkS validS
 rw[decide_eq_true h,Bool.true_and]
 cases ha:ascB 0 l with
 | false=>rfl
 | true =>
  rw[Bool.true_and,List.all_eq_true]
  intro s hs
  have:=asc_mem ha hs
  simp;omega
theorem all_not {l:List Sp} {q:Sp→Bool} {B:Bool} (h:l.any q=B):(l.all fun c => !q c) = !B:=by
 rw[←h,Bool.eq_iff_iff];simp
set_option maxHeartbeats 8000000 in
theorem inOrder_any (x : TV) (T : Tb) (w : World) (hx : TabV w x T) (hr : Rsv w) (h1 : r1 T = true) :
  Calls Tryz.prog 141 #[x.agg] w (Gives (.bool (r2 T)) w):=by
 have HX:=Lib.hid hx
 have HR0:=Lib.hid hr
 have HR1:=Lib.hid h1
 have HE0:=Lib.hid (Env.new hx)
 clear hx hr h1
 simp only[TV.agg]
 go_enter Tryz.func141,Tryz.ntmps141
 go_wp2_with fail
 refine(spanLists_any x T _ HE0.out.tab).mono ?_
 rintro e w1 ⟨rfl,hb1⟩
 have HE1:=Lib.hid (HE0.out.step hb1)
 have HR:=Lib.hid (HR0.out.below HE1.out.bel)
 clear hb1
 simp only[seven]
 go_wp2
 go_loopw [4,7] (fun v i wr=>∃k:Nat,k≤7∧i = .int .i64 k∧Hid (((spansT T).take k).all spOk=true)∧Hid (Env w x T wr)) (fun _ i _=>7-(intOf i).toNat)
 case atStart=>exact⟨0,by omega,rfl,rfl,HE1⟩
 case round =>
  clear HE0 HE1 HR
  obtain⟨k,hk,rfl,hall,HE⟩:=hrel
  have HR:=Lib.hid (HR0.out.below HE.out.bel)
  by_cases hlt:k<7
  ·obtain⟨p,n,c,l,hl,hln,hn,hin,hix⟩:=seven_at HE.out.tab k hlt
   have hst:=sp_step spOk hlt hall.out
   have hfew:=few_sp HR1.out k hlt
   rw[hl]at hst hfew
   have hck:=spOk_valid hfew
   have HS:=Lib.hid hst
   have HI:=Lib.hid hin
   have HLN:=Lib.hid hln
   clear hl hst hln hin hfew
   have hfin:Hid (spOk l=false→r2 T=false):=fun h=>by
    unfold r2
    rw[all_of_take spOk (spansT T) (k+1) (by rw[HS.out,h])];rfl
   cases ha:ascB 0 l with
   | false =>
    have HF:=Lib.hid (hfin.out (by unfold spOk;rw[ha];rfl))
    rw[ha]at hck
    have HC:=Lib.hid hck
    clear ha hck
    go_wp2_with fail
    refine(check_at p n c l 0 1114111 false _ HLN (by unfold maxLen;omega) HI.out HC).mono ?_
    rintro e w2 ⟨rfl,hb2⟩
    have HE2:=Lib.hid (HE.out.step hb2)
    clear hb2
    go_wp2
    go_ret
    rw[HF.out]
    exact⟨rfl,HE2.out.bel⟩
   | true =>
    rw[ha]at hck
    have HC:=Lib.hid hck
    have HA:=Lib.hid ha
    clear ha hck
    obtain⟨B,hB⟩:∃B,Hid (l.any (fun s=>resF s.1 s.2.1)=B):=⟨_,rfl⟩
    have HB:=Lib.hid (all_not hB.out)
    go_wp2_with fail
    refine(check_at p n c l 0 1114111 true _ HLN (by unfold maxLen;omega) HI.out HC).mono ?_
    rintro e w2 ⟨rfl,hb2⟩
    have HE2:=Lib.hid (HE.out.step hb2)
    have HR2:=Lib.hid (HR.out.below hb2)
    have HI2:=Lib.hid (HI.out.below hb2)
    clear hb2
    go_wp2_with fail
    refine(conS_any (.slice p n c) l 198 #[] _ B _ ⟨p,c,by rw[HLN.out],HI2.out,by rw[HLN.out];exact hn⟩ (testOrd _ HR2.out) entersOrd hB).mono ?_
    rintro e w3 ⟨rfl,hb3⟩
    have HE3:=Lib.hid (HE2.out.step hb3)
    clear hb3
    cases B with
    | true =>
     have HF:=Lib.hid (hfin.out (by unfold spOk;rw[HB.out];simp))
     go_wp2
     go_ret
     rw[HF.out]
     exact⟨rfl,HE3.out.bel⟩
    | false =>
     have HT:Hid (((spansT T).take (k+1)).all spOk=true):=by unfold Hid;rw[HS.out,spOk,HA.out,HB.out];rfl
     go_wp2
     go_roundw
     case rel=>exact⟨k+1,by omega,by go_num,HT,HE3⟩
     case measure=>simp[intOf];omega
  ·obtain rfl:k=7:=by omega
   have HS7:Hid ((spansT T).all spOk=true):=by
    have:=hall.out
    rwa[List.take_of_length_le (Nat.le_of_eq (spansT_len T))]at this
   obtain⟨f1,f2,f3,f4,f5⟩:=few_mp HR1.out
   obtain⟨B1,hB1⟩:∃B,Hid (keyOk (froms T.ext)=B):=⟨_,rfl⟩
   obtain⟨B2,hB2⟩:∃B,Hid (keyOk (froms T.map)=B):=⟨_,rfl⟩
   obtain⟨B3,hB3⟩:∃B,Hid (keyOk (froms T.dec)=B):=⟨_,rfl⟩
   obtain⟨B4,hB4⟩:∃B,Hid (keyOkP (froms T.pro)=B):=⟨_,rfl⟩
   obtain⟨B5,hB5⟩:∃B,Hid (keyOk T.exc=B):=⟨_,rfl⟩
   have HRR:Hid (r2 T=(B1&&(B2&&(B3&&(B4&&B5))))):=by
    unfold Hid r2;rw[HS7.out,hB1.out,hB2.out,hB3.out,hB4.out,hB5.out];rfl
   have hl1:Hid ((froms T.ext).length≤17592186043904):=by unfold Hid;rw[froms_length];omega
   have hl2:Hid ((froms T.map).length≤17592186043904):=by unfold Hid;rw[froms_length];omega
   have hl3:Hid ((froms T.dec).length≤17592186043904):=by unfold Hid;rw[froms_length];omega
   have hl4:Hid ((froms T.pro).length≤17592186043904):=by unfold Hid;rw[froms_length];omega
   obtain⟨⟨k0,k1,k2,k3,k4,k5⟩,⟨k6,k7,k8,k9,k10,k11⟩⟩:=HE.out.box
   clear k0 k1 k2 k3 k4 k5 k6 k8 k9 k10 k11
   go_wp2_with fail
   refine(froms_any x.a7 T.ext _ HE.out.tab.ext f1).mono ?_
   rintro e w2 ⟨v2,rfl,hv2,hb2⟩
   have HV2:=Lib.hid (hv2.inV hl1.out)
   have HE2:=Lib.hid (HE.out.step hb2)
   have HR2:=Lib.hid (HR.out.below hb2)
   clear hb2 hv2 k7
   go_wp2_with fail
   refine(areKeys_at v2 (froms T.ext) 202 resB B1 _ HV2.out (testRes _ HR2.out) entersRes hB1).mono ?_
   rintro e w3 ⟨rfl,hb3⟩
   have HE3:=Lib.hid (HE2.out.step hb3)
   have HR3:=Lib.hid (HR2.out.below hb3)
   clear hb3
   cases B1 with
   | false =>
    go_wp2
    go_ret
    exact⟨by rw[HRR.out];rfl,HE3.out.bel⟩
   | true =>
    obtain⟨_,⟨_,_,k8,_,_,_⟩⟩:=HE3.out.box
    go_wp2_with fail
    refine(froms_any x.a8 T.map _ HE3.out.tab.map f2).mono ?_
    rintro e w4 ⟨v4,rfl,hv4,hb4⟩
    have HV4:=Lib.hid (hv4.inV hl2.out)
    have HE4:=Lib.hid (HE3.out.step hb4)
    have HR4:=Lib.hid (HR3.out.below hb4)
    clear hb4 hv4 k8
    go_wp2_with fail
    refine(areKeys_at v4 (froms T.map) 202 resB B2 _ HV4.out (testRes _ HR4.out) entersRes hB2).mono ?_
    rintro e w5 ⟨rfl,hb5⟩
    have HE5:=Lib.hid (HE4.out.step hb5)
    have HR5:=Lib.hid (HR4.out.below hb5)
    clear hb5
    cases B2 with
    | false =>
     go_wp2
     go_ret
     exact⟨by rw[HRR.out];rfl,HE5.out.bel⟩
    | true =>
     obtain⟨_,⟨_,_,_,k9,_,_⟩⟩:=HE5.out.box
     go_wp2_with fail
     refine(froms_any x.a9 T.dec _ HE5.out.tab.dec f3).mono ?_
     rintro e w6 ⟨v6,rfl,hv6,hb6⟩
     have HV6:=Lib.hid (hv6.inV hl3.out)
     have HE6:=Lib.hid (HE5.out.step hb6)
     have HR6:=Lib.hid (HR5.out.below hb6)
     clear hb6 hv6 k9
     go_wp2_with fail
     refine(areKeys_at v6 (froms T.dec) 202 resB B3 _ HV6.out (testRes _ HR6.out) entersRes hB3).mono ?_
     rintro e w7 ⟨rfl,hb7⟩
     have HE7:=Lib.hid (HE6.out.step hb7)
     have HR7:=Lib.hid (HR6.out.below hb7)
     clear hb7
     cases B3 with
     | false =>
      go_wp2
      go_ret
      exact⟨by rw[HRR.out];rfl,HE7.out.bel⟩
     | true =>
      obtain⟨_,⟨_,_,_,_,_,k11⟩⟩:=HE7.out.box
      go_wp2_with fail
      refine(froms_any x.a11 T.pro _ HE7.out.tab.pro f4).mono ?_
      rintro e w8 ⟨v8,rfl,hv8,hb8⟩
      have HV8:=Lib.hid (hv8.inV hl4.out)
      have HE8:=Lib.hid (HE7.out.step hb8)
      have HR8:=Lib.hid (HR7.out.below hb8)
      clear hb8 hv8 k11
      go_wp2_with fail
      refine(areKeys_at v8 (froms T.pro) 203 resP B4 _ HV8.out (testResP _ HR8.out) entersResP hB4).mono ?_
      rintro e w9 ⟨rfl,hb9⟩
      have HE9:=Lib.hid (HE8.out.step hb9)
      have HR9:=Lib.hid (HR8.out.below hb9)
      clear hb9
      cases B4 with
      | false =>
       go_wp2
       go_ret
       exact⟨by rw[HRR.out];rfl,HE9.out.bel⟩
      | true =>
       obtain⟨_,⟨_,_,_,_,k10,_⟩⟩:=HE9.out.box
       go_wp2_with fail
       refine(areKeys_at x.a10 T.exc 202 resB B5 _ HE9.out.tab.exc (testRes _ HR9.out) entersRes hB5).mono ?_
       rintro e w10 ⟨rfl,hb10⟩
       have HE10:=Lib.hid (HE9.out.step hb10)
       clear hb10 k10
       go_wp2
       go_ret
       exact⟨by rw[HRR.out];rfl,HE10.out.bel⟩
end Go.Proofs.YtblcoicaeeiojaaGreatDoor
