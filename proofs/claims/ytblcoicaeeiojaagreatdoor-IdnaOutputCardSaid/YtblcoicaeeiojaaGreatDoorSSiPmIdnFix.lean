/- idna (stage 18): plain: a name whose labels are in their fin -/
import Derived.Test.YtblcoicaeeiojaaGreatDoorSSiPmOrdEnv
set_option linter.unusedSimpArgs false
set_option linter.unusedVariables false
namespace Go.Proofs.YtblcoicaeeiojaaGreatDoor
theorem placed_cntI:∀(l:List Int) (F:List Bool),F.length=l.length→(placed l F).length+F.count false=l.length
 | [],F,h=>by
  have:F=[]:=List.eq_nil_of_length_eq_zero (by simpa using h)
  subst this
  simp[placed]
 | c::l,[],h=>by simp at h
 | c::l,b::F,h=>by
  have ih:=placed_cntI l F (by simpa using h)
  rw[placed]
  cases b with
  | true=>simp;omega
  | false=>simp;omega
theorem count_setF:∀(F:List Bool) (a:Nat),F.getD a true=false→(F.set a true).count false+1=F.count false
 | [],a,h=>by simp at h
 | b::F,0,h=>by
  have:b=false:=by simpa using h
  subst this
  simp
 | b::F,a+1,h=>by
  have ih:=count_setF F a (by simpa using h)
  rw[List.set_cons_succ,List.count_cons,List.count_cons]
  omega
theorem count_none:∀(F:List Bool),(∀i,i<F.length→F.getD i true=true)→F.count false=0
 | [],_=>rfl
 | b::F,h=>by
  have h0:b=true:=by simpa using h 0 (by simp)
  have ih:=count_none F (fun i hi=>by simpa using h (i+1) (by simpa using hi))
  subst h0
  rw[List.count_cons,ih];rfl
theorem pnumS_pos (b j v:Nat):1≤(pnumS b j v).length:=by
 rw[pnumS]
 split<;>simp
theorem pencL_ge (l:List Int):∀(f:Nat) (F:List Bool) (n:Int) (i b:Nat) (first:Bool),F.length=l.length→f≤F.count false→f≤(pencL l f F n i b first).length
 | 0,F,n,i,b,first,hF,hf=>Nat.zero_le _
 | f+1,F,n,i,b,first,hF,hf=>by
  rw[pencL]
  cases hk:leastK l F l.length with
  | none =>
   have:=count_none F (fun i hi=>leastK_none l F l.length hk i (by omega))
   omega
  | some a =>
   have hL:=leastK_some l F _ a hk
   have h1:=count_setF F a hL.out
   have h2:=pnumS_pos b 0 (stepV l F n i a)
   have ih:=pencL_ge l f (F.set a true) (l.getD a 0) (pcs l F a+1) (adaptN (stepV l F n i a) ((placed l F).length+1) first) false (by simpa using hF) (by omega)
   simp only[List.length_append,List.length_map]
   omega
theorem encP_ge {l:List Int} (h:(encP l).2=0):l.length≤(encP l).1.length∧l.length≤256∧l.all scpB=true:=by
 unfold encP at h ⊢
 by_cases h1:256<l.length
 ·rw[if_pos h1]at h;simp at h
 ·rw[if_neg h1]at h ⊢
  by_cases h2:l.all scpB=false
  ·rw[if_pos h2]at h;simp at h
  ·rw[if_neg h2]
   refine⟨?_,by omega,by simpa using h2⟩
   have hc:=placed_cntI l (basF l) (by simp[basF])
   have hp:=pencL_ge l (l.length-(basS l).length) (basF l) 128 0 72 true (by simp[basF]) (by unfold basS;omega)
   unfold frontS
   simp only[List.length_append]
   unfold basS at hp ⊢
   omega
theorem labS_ge {l:List Int} (h:(labS l).2=0):l≠[]∧l.length≤(labS l).1.length∧(labS l).1.length≤63∧1≤(labS l).1.length:=by
 unfold labS at h ⊢
 by_cases h1:l=[]
 ·rw[if_pos h1]at h;simp at h
 ·rw[if_neg h1]at h ⊢
  have hp:1≤l.length:=List.length_pos_iff.2 h1
  refine⟨h1,?_⟩
  by_cases h2:ascQ l=true
  ·rw[if_pos h2]at h ⊢
   unfold longE at h ⊢
   by_cases h3:63<l.length
   ·rw[if_pos h3]at h;simp at h
   ·rw[if_neg h3];exact⟨Nat.le_refl _,by simpa using h3,hp⟩
  ·rw[if_neg h2]at h ⊢
   by_cases h4:(encP l).2=0
   ·rw[if_neg (by omega)]at h ⊢
    have hg:=(encP_ge h4).1
    unfold longE at h ⊢
    by_cases h3:63<(xnS++(encP l).1).length
    ·rw[if_pos h3]at h;simp at h
    ·rw[if_neg h3]
     simp only[List.length_append]at h3 ⊢
     omega
   ·rw[if_pos h4]at h;exact absurd h h4
def ldh (c:Int):Prop:=(97≤c∧c≤122)∨(48≤c∧c≤57)∨c=45
theorem sta_ascii {T:Tb} (h:checkT T=0) {c:Int} (h0:0≤c) (h1:c≤127) (hs:staT T c=1∨staT T c=4):ldh c∨c=46:=by
 unfold staT at hs
 rw[val_res (r2_sta (check_rules h).2.1) (resB_iff.2 (by omega)),Option.getD_none]at hs
 unfold fixT at hs
 unfold ldh
 by_cases hc:(latB c||decide (c=46)||sylB c)=true
 ·simp only[Bool.or_eq_true,latB_iff,decide_eq_true_eq]at hc
  rcases hc with(hc|hc)|hc
  ·exact .inl hc
  ·exact .inr hc
  ·unfold sylB at hc;simp at hc;omega
 ·rw[if_neg hc]at hs
  split at hs<;>omega
theorem sta_ldh {T:Tb} (h:checkT T=0) {c:Int} (hc:ldh c∨c=46):staT T c=1:=by
 unfold ldh at hc
 unfold staT
 rw[val_res (r2_sta (check_rules h).2.1) (resB_iff.2 (by omega)),Option.getD_none]
 unfold fixT
 rw[if_pos]
 simp only[Bool.or_eq_true,latB_iff,decide_eq_true_eq]
 left
 rcases hc with hc|hc
 ·exact .inl hc
 ·exact .inr hc
theorem valid_ascii {T:Tb} {y:List Int} (h:valR T y=0) {c:Int} (hc:c∈y) (h1:c≤127):ldh c:=by
 obtain⟨_,h2,h3,h4,_,_,_⟩:=valid_parts h
 have hck:=(accE_ok (val_ok h).1).1
 have hs:=List.all_eq_true.1 h4 c hc
 have h0:0≤c:=by unfold scaB at hs;simp at hs;omega
 rcases sta_ascii hck h0 h1 (h3 c hc)with e|e
 ·exact e
 ·rw[e]at hc;exact absurd hc h2
theorem labS_ldh {T:Tb} {y:List Int} (h:valR T y=0) (he:(labS y).2=0):∀c∈(labS y).1,ldh c:=by
 have hge:=labS_ge he
 intro c hc
 unfold labS at he hc
 rw[if_neg hge.1]at he hc
 by_cases h2:ascQ y=true
 ·rw[if_pos h2]at he hc
  unfold longE at hc
  split at hc
  ·cases hc
  ·have:=List.all_eq_true.1 h2 c hc
   simp only[Bool.and_eq_true,decide_eq_true_eq]at this
   exact valid_ascii h hc this.2
 ·rw[if_neg h2]at he hc
  by_cases h4:(encP y).2=0
  ·rw[if_neg (by omega)]at hc
   unfold longE at hc
   split at hc
   ·cases hc
   ·have hc:c∈xnS++(encP y).1:=hc
    have hg:=encP_ge h4
    rcases List.mem_append.1 hc with e|e
    ·unfold xnS at e
     simp only[List.mem_cons,List.not_mem_nil,or_false]at e
     unfold ldh;omega
    ·unfold encP at e
     rw[if_neg (by omega),if_neg (by rw[hg.2.2];simp)]at e
     rcases List.mem_append.1 e with e|e
     ·unfold frontS at e
      rcases List.mem_append.1 e with e|e
      ·exact valid_ascii h (basS_mem e) (by have:=basS_lt y c e;omega)
      ·split at e
       ·cases e
       ·rw[List.mem_singleton]at e;unfold ldh;omega
     ·have:=pencL_dig y _ _ _ _ _ _ c e
      unfold ldh;omega
  ·rw[if_pos h4]at he;exact absurd he h4
theorem labP_back {T:Tb} {y:List Int} (h:valR T y=0) (he:(labS y).2=0):labP (labS y).1=(y,0):=by
 obtain⟨hne,h46,hst,hsc,hx,_,_⟩:=valid_parts h
 have hge:=labS_ge he
 cases ha:ascQ y with
 | true =>
  have e:(labS y).1=y:=by
   unfold labS at he ⊢
   rw[if_neg hne,if_pos ha]at he ⊢
   unfold longE at he ⊢
   split at he
   ·simp at he
   ·rename_i h3;rw[if_neg h3]
  rw[e]
  unfold labP
  rw[if_neg (fun hh=>by rw[hx]at hh;cases hh.2)]
 | false =>
  have hsp:y.all scpB=true:=hsc
  have hl:y.length≤186:=by omega
  obtain⟨b1,b2,b3⟩:=back_ok y hsp hl
  have hlow:=encP_low hsp (by omega) (fun c hc e=>by have:=valid_ascii h hc (by omega);unfold ldh at this;omega)
  obtain⟨p,hp⟩:∃p,(encP y).1=p:=⟨_,rfl⟩
  have hlen:¬63<(xnS++p).length:=fun hh=>by
   unfold labS at he
   rw[if_neg hne,ha,if_neg (by simp),b2,if_neg (by simp),hp]at he
   unfold longE at he
   rw[if_pos hh]at he;simp at he
  have hlw:labS y=(xnS++p,0):=by
   unfold labS longE
   rw[if_neg hne,ha,if_neg (by simp),b2,if_neg (by simp),hp,if_neg hlen]
  rw[hp]at b1 hlow
  have hd4:(xnS++p).drop 4=p:=by simp[xnS]
  have hxx:isX (xnS++p)=true:=by
   unfold isX
   have:(xnS++p).take 4=xnS:=by simp[xnS]
   rw[this]
   simp[xnS,lowS,lowC]
  have hlp:lowS p=p:=lowS_no (fun c h=>(hlow c h).1)
  have hla:lowS (xnS++p)=xnS++p:=by
   have e1:lowS xnS=xnS:=by simp[xnS,lowS,lowC]
   unfold lowS at e1 hlp ⊢
   rw[List.map_append,e1,hlp]
  have hldh:∀c∈xnS++p,ldh c:=fun c hc=>labS_ldh h he c (by rw[hlw];exact hc)
  have hany:¬((xnS++p).any fun c=>decide (127<c))=true:=by
   rw[Bool.not_eq_true,List.any_eq_false]
   intro c hcm
   have:=hldh c hcm
   unfold ldh at this
   simp;omega
  have hasc:ascQ (xnS++p)=true:=by
   unfold ascQ
   rw[List.all_eq_true]
   intro c hcm
   have:=hldh c hcm
   unfold ldh at this
   simp;omega
  rw[hlw]
  simp only
  unfold labP
  rw[if_pos ⟨hasc,hxx⟩]
  unfold ptsS
  rw[if_neg (by simp[xnS]),if_neg hany,if_neg hlen,hxx,if_neg (by simp),hd4,hlp,b1]
  unfold ptsX
  simp only
  rw[if_neg (by simp),hlw,hla,ha]
  simp
theorem made_none {T:Tb} (h:Made T) {c:Int} (hc:c<7680∨7684<c):findM T.dec c=[]:=by
 by_cases e:findM T.dec c=[]
 ·exact e
 ·obtain⟨j,hj,e1,_⟩:=h.dec.mem _ (findM_mem e)
  have e1:c=7680+j:=e1
  omega
theorem decS_len3 (c:Int):(decS c).length≤3:=by
 unfold decS
 split
 ·split<;>simp
 ·simp
theorem exp_flat1 {T:Tb} {c:Int} (hn:decS c=[]) (hf:findM T.dec c=[]):(expT T c).length=1:=by rw[exp_one hn hf];rfl
theorem made_exp {T:Tb} (h:Made T):∀(j:Nat),j<5→(expT T (7680+j)).length≤j+2:=by
 intro j
 induction j using Nat.strongRecOn with
 | _ j ih =>
  intro hj
  have hn:decS (7680+j)=[]:=decS_nil.2 (by omega)
  by_cases hf:findM T.dec (7680+j)=[]
  ·rw[exp_flat1 hn hf];omega
  ·obtain⟨i,hi,e1,a,ha,ht⟩:=h.dec.mem _ (findM_mem hf)
   have e1:(7680:Int)+j=7680+i:=e1
   obtain rfl:i=j:=by omega
   have ht:findM T.dec (7680+(i:Int))=[a]∨∃b∈marks,findM T.dec (7680+(i:Int))=[a,b]:=ht
   have hla:(expT T a).length≤i+1:=by
    rcases ha with e|e|⟨q,hq,e⟩
    ·rw[e,exp_flat1 (decS_nil.2 (by omega)) (made_none h (by omega))];omega
    ·rw[e,exp_flat1 (decS_nil.2 (by omega)) (made_none h (by omega))];omega
    ·rw[e]
     have:=ih q hq (by omega)
     omega
   rw[exp_rec h.check hn hf]
   rcases ht with e|⟨b,hb,e⟩
   ·rw[e,all_cons]
    simp[flatT]
    omega
   ·have key:∀b∈marks,b<7680:=by decide
    have hbl:=key b hb
    have h1:(expT T b).length=1:=exp_flat1 (decS_nil.2 (by omega)) (made_none h (by omega))
    rw[e,all_cons,all_cons,List.length_append,List.length_append,h1]
    simp[flatT]
    omega
theorem made_exp6 {T:Tb} (h:Made T) (c:Int):(expT T c).length≤6:=by
 by_cases hc:c<7680∨7684<c
 ·have hf:=made_none h hc
  by_cases hn:decS c=[]
  ·rw[exp_flat1 hn hf];omega
  ·unfold expT
   rw[if_neg hn]
   have:=decS_len3 c
   omega
 ·have:=made_exp h (c-7680).toNat (by omega)
  rw[show (7680:Int)+((c-7680).toNat:Nat)=c by omega]at this
  omega
theorem made_flat {T:Tb} (h:Made T) (l:List Int):(flatT T l).length≤6*l.length:=by
 induction l with
 | nil=>simp[flatT]
 | cons x r ih =>
  have:=made_exp6 h x
  rw[all_cons,List.length_append,List.length_cons]
  omega
theorem made_nfd {T:Tb} (h:Made T) {l:List Int} (hs:l.all scaB=true) (hl:l.length≤600):nfdE T l=0 :=
 nfdE_ok (accE_zero h.check (by omega) hs) (by have:=made_flat h l;omega)
theorem join_all {P:Int→Prop} (h46:P 46):∀(Y:List (List Int)),(∀y∈Y,∀c∈y,P c)→∀c∈joinD Y,P c
 | [],_,c,hc=>by simp[joinD]at hc
 | [y],h,c,hc=>h y (by simp) c (by simpa[joinD] using hc)
 | y::z::r,h,c,hc=>by
  rw[joinD_cons y (by simp)]at hc
  rcases List.mem_append.1 hc with e|e
  ·exact h y (by simp) c e
  ·rcases List.mem_cons.1 e with e|e
   ·rw[e];exact h46
   ·exact join_all h46 (z::r) (fun w hw=>h w (by simp[hw])) c e
theorem join_sca {Y:List (List Int)} (h:∀y∈Y,y.all scaB=true):(joinD Y).all scaB=true :=
 List.all_eq_true.2 (join_all (P:=fun c=>scaB c=true) (by decide) Y (fun y hy c hc=>List.all_eq_true.1 (h y hy) c hc))
theorem join_nfc {T:Tb} (h:Made T):∀(Y:List (List Int)),(∀y∈Y,nfdE T y=0∧nfcL T y=y∧y.all scaB=true)→Y≠[]→(joinD Y).length≤600→nfcL T (joinD Y)=joinD Y
 | [],_,hne,_=>absurd rfl hne
 | [y],hy,_,_=>by
  have:joinD [y]=y:=by simp[joinD]
  rw[this];exact(hy y (by simp)).2.1
 | y::z::r,hy,_,hl=>by
  have hsc:(joinD (z::r)).all scaB=true:=join_sca (fun w hw=>(hy w (by simp[hw])).2.2)
  have hsy:(joinD (y::z::r)).all scaB=true:=join_sca (fun w hw=>(hy w hw).2.2)
  have ej:joinD (y::z::r)=y++[46]++joinD (z::r):=by rw[joinD_cons y (by simp)];simp
  have hlz:(joinD (z::r)).length≤600:=by rw[ej]at hl;simp at hl;omega
  have ih:=join_nfc h (z::r) (fun w hw=>hy w (by simp[hw])) (by simp) hlz
  rw[ej]at hl hsy ⊢
  rw[nfc_stops (hy y (by simp)).1 (made_nfd h hsc hlz) (made_nfd h hsy hl),ih,(hy y (by simp)).2.1]
theorem sta_stop {T:Tb} (h:checkT T=0):staT T 46=1:=sta_ldh h (.inr rfl)
theorem map_fixed {T:Tb} {l:List Int} (h:checkT T=0) (hs:l.all scaB=true) (hl:l.length≤4096) (hst:∀c∈l,staT T c=1∨staT T c=4):mapR T l=(l,0,0):=by
 have hm:mapF T l=l:=mapF_same hst
 have:=mapR_mk (accE_zero h hl hs) ((badK_none 0 l).2 fun c hc=>by have:=hst c hc;omega) (by rw[hm];exact hl)
 rw[this,hm]
theorem procL_fixed {T:Tb} {Y:List (List Int)} (hv:∀y∈Y,valR T y=0) (hne:Y≠[]) (hd:(domR T Y).2=0):procL T (joinD Y)=(Y,0,0):=by
 unfold procL
 rw[cut_join Y hne (fun y hy=>(valid_parts (hv y hy)).2.1),labK_fixed Y 0 hv]
 simp only
 rw[if_neg (by simp),if_neg (by rw[hd];simp)]
theorem proc_fixed {T:Tb} (h:Made T) {Y:List (List Int)} (hv:∀y∈Y,valR T y=0) (hne:Y≠[]) (hd:(domR T Y).2=0) (hn:(joinD Y).length≤600):procM T (joinD Y)=(Y,0,0):=by
 have hs:=join_sca (fun y hy=>(valid_parts (hv y hy)).2.2.2.1)
 have hm:=map_fixed h.check hs (by omega) (join_all (P:=fun c=>staT T c=1∨staT T c=4) (.inl (sta_stop h.check)) Y (fun y hy=>(valid_parts (hv y hy)).2.2.1))
 have hf:=made_nfd h hs hn
 have hc:=join_nfc h Y (fun y hy=>by obtain⟨_,_,_,h4,_,h6,h7⟩:=valid_parts (hv y hy);exact⟨h6,h7,h4⟩) hne hn
 unfold procM
 rw[hm]
 simp only
 rw[if_neg (by simp),if_neg (by rw[hf];simp),hc]
 exact procL_fixed hv hne hd
theorem ldhS_low {c:Int} (hc:ldh c∨c=46):resB c=true∧scaB c=true∧decS c=[]∧kindS c=0:=by
 unfold ldh at hc
 refine⟨resB_iff.2 (by omega),?_,decS_nil.2 (by omega),kindS_0 (by omega) (by omega) (by omega) (by omega)⟩
 unfold scaB;simp;omega
theorem ldhS_sec {T:Tb} (h:Made T) {c:Int} (hc:ldh c∨c=46):secB T c=false:=by
 have hk:=(ldhS_low hc).2.2.2
 unfold ldh at hc
 cases hb:secB T c with
 | false=>rfl
 | true =>
  unfold secB at hb
  simp only[Bool.or_eq_true,decide_eq_true_eq,List.any_eq_true,Bool.and_eq_true]at hb
  rcases hb with hb|hb|⟨m,hm,h2,h3,_⟩
  ·omega
  ·omega
  ·obtain⟨j,_,_,a,_,ht⟩:=h.dec.mem m hm
   rcases ht with e|⟨b,hbm,e⟩
   ·rw[e]at h2;simp at h2
   ·rw[e]at h3
    have h4:b=c:=h3
    subst h4
    have key:∀b∈marks,¬(((97≤b∧b≤122)∨(48≤b∧b≤57)∨b=45)∨b=46):=by decide
    exact absurd hc (key b hbm)
theorem ldhS_nfc {T:Tb} (h:Made T) (l:List Int) (hl:∀c∈l,ldh c∨c=46) (hn:l.length≤4096):nfdE T l=0∧nfcL T l=l:=by
 have hc:=h.check
 have hf:∀c∈l,Fin1 T c:=fun c hcl=>by
  have:=ldhS_low (hl c hcl)
  exact⟨this.2.1,dec_res hc this.1,this.2.2.1⟩
 have ho:inOrd (clsT T) l:=by
  rw[inOrd_iff]
  intro i hi hh
  have:l.getD (i+1) 0∈l:=by simp[hi]
  have:=cls_res hc (ldhS_low (hl _ this)).1
  omega
 have hs:l.all scaB=true:=fin_sca hf
 have ha:accE T l=0:=accE_zero hc (by omega) hs
 have he:nfdE T l=0:=nfdE_ok ha (by rw[all_id hf];exact hn)
 have hq:quickT T l=1:=by
  unfold quickT
  have h1:srtB T l=true:=by unfold srtB;rw[ha,ordS_id _ _ ho];simp
  have h2:(l.any fun c=>decide (findM T.dec c≠[]) && !compT T c)=false:=by
   rw[List.any_eq_false]
   intro c hcl
   rw[(hf c hcl).2.1];simp
  have h3:(l.any fun c=>secB T ((expT T c).headD 0))=false:=by
   rw[List.any_eq_false]
   intro c hcl
   rw[(hf c hcl).exp]
   have:=ldhS_sec h (hl c hcl)
   simpa using this
  rw[h1,if_neg (by simp),h2,if_neg (by simp),h3,if_neg (by simp)]
 have:=isn_facts (quick_yes hq he)
 exact this
theorem encK_ok:∀(Y:List (List Int)) (k:Nat),(encK k Y).2.2=0→encK k Y=(Y.map fun y=>(labS y).1,0,0)∧∀y∈Y,(labS y).2=0
 | [],k,_=>by simp[encK]
 | y::r,k,h=>by
  rw[encK]at h ⊢
  by_cases h1:(labS y).2=0
  ·rw[if_neg (by omega)]at h ⊢
   by_cases h2:(encK (k+1) r).2.2=0
   ·rw[if_neg (by omega)]
    obtain⟨i1,i2⟩:=encK_ok r (k+1) h2
    refine⟨by rw[i1];simp,fun z hz=>?_⟩
    rcases List.mem_cons.1 hz with e|e
    ·rw[e];exact h1
    ·exact i2 z e
   ·rw[if_pos h2]at h;exact absurd h h2
  ·rw[if_pos h1]at h;exact absurd h h1
theorem ascL_ok {Y:List (List Int)} (h:(ascL Y).2.2=0):(∀y∈Y,(labS y).2=0)∧ascL Y=(joinD (Y.map fun y=>(labS y).1),0,0)∧(joinD (Y.map fun y=>(labS y).1)).length≤253:=by
 unfold ascL at h ⊢
 by_cases h1:(encK 0 Y).2.2=0
 ·rw[if_neg (by omega)]at h ⊢
  obtain⟨i1,i2⟩:=encK_ok Y 0 h1
  rw[i1]at h ⊢
  simp only at h ⊢
  by_cases h2:(chkD ((Y.map fun y=>(labS y).1).map List.length)).2=0
  ·rw[if_neg (by omega)]
   refine⟨i2,rfl,?_⟩
   have:=(chkD_ok h2).2.2.2
   rw[join_len]
   rw[List.length_map]at this
   exact this
  ·rw[if_pos h2]at h;exact absurd h h2
 ·rw[if_pos h1]at h;exact absurd h h1
theorem sum_le:∀(Y:List (List Int)) (f:List Int→List Int),(∀y∈Y,y.length≤(f y).length)→(Y.map List.length).sum≤((Y.map f).map List.length).sum
 | [],f,_=>by simp
 | y::r,f,h=>by
  have:=sum_le r f (fun z hz=>h z (by simp[hz]))
  have h1:=h y (by simp)
  simp only[List.map_cons,List.sum_cons]
  omega
theorem join_le {Y:List (List Int)} (h:∀y∈Y,(labS y).2=0):(joinD Y).length≤(joinD (Y.map fun y=>(labS y).1)).length:=by
 rw[join_len,join_len]
 have:=sum_le Y (fun y=>(labS y).1) (fun y hy=>(labS_ge (h y hy)).2.1)
 rw[List.length_map]
 omega
theorem labK_back {T:Tb}:∀(Y:List (List Int)) (k:Nat),(∀y∈Y,valR T y=0)→(∀y∈Y,(labS y).2=0)→labK T k (Y.map fun y=>(labS y).1)=(Y,0,0)
 | [],k,_,_=>rfl
 | y::r,k,h,he=>by
  have h1:lab1 T (labS y).1=(y,0):=by
   unfold lab1
   rw[labP_back (h y (by simp)) (he y (by simp))]
   simp only
   rw[if_neg (by simp),if_neg (by have:=h y (by simp);omega)]
  rw[List.map_cons,labK,h1,labK_back r (k+1) (fun z hz=>h z (by simp[hz])) (fun z hz=>he z (by simp[hz]))]
  simp
theorem proc_ascii {T:Tb} (h:Made T) {Y:List (List Int)} (hv:∀y∈Y,valR T y=0) (hne:Y≠[]) (hd:(domR T Y).2=0) (he:∀y∈Y,(labS y).2=0) (hn:(joinD (Y.map fun y=>(labS y).1)).length≤253):procM T (joinD (Y.map fun y=>(labS y).1))=(Y,0,0):=by
 have hl:∀c∈joinD (Y.map fun y=>(labS y).1),ldh c∨c=46:=join_all (P:=fun c=>ldh c∨c=46) (.inr rfl) _ (fun x hx c hc=>by
  obtain⟨y,hy,rfl⟩:=List.mem_map.1 hx
  exact .inl (labS_ldh (hv y hy) (he y hy) c hc))
 have hs:(joinD (Y.map fun y=>(labS y).1)).all scaB=true:=List.all_eq_true.2 fun c hc=>(ldhS_low (hl c hc)).2.1
 have hm:=map_fixed h.check hs (by omega) (fun c hc => .inl (sta_ldh h.check (hl c hc)))
 obtain⟨hf,hc⟩:=ldhS_nfc h _ hl (by omega)
 unfold procM
 rw[hm]
 simp only
 rw[if_neg (by simp),if_neg (by rw[hf];simp),hc]
 unfold procL
 rw[cut_join _ (by simpa using hne) (fun x hx hm=>by
  obtain⟨y,hy,rfl⟩:=List.mem_map.1 hx
  have:=labS_ldh (hv y hy) (he y hy) 46 hm
  unfold ldh at this;omega),labK_back Y 0 hv he]
 simp only
 rw[if_neg (by simp),if_neg (by rw[hd];simp)]
theorem toaR_ok {T:Tb} {s:List UInt8} (h:(toaR T s).2.2=0):(procR T s).2.2=0∧toaR T s=ascL (procR T s).1:=by
 unfold toaR at h ⊢
 by_cases h1:(procR T s).2.2=0
 ·rw[if_neg (by omega)];exact⟨h1,rfl⟩
 ·rw[if_pos h1]at h;exact absurd h h1
theorem toa_same {T:Tb} {s r:List UInt8} (h:procR T r=procR T s):toaR T r=toaR T s∧touR T r=touR T s:=by
 have:toaR T r=toaR T s:=by unfold toaR;rw[h]
 exact⟨this,by unfold touR;rw[this,h]⟩
theorem procR_of {T:Tb} {r:List UInt8} {l:List Int} {Y:List (List Int)} (hc:checkT T=0) (hr:r≠[]) (hd:decU r=(l,0,0)) (hp:procM T l=(Y,0,0)):procR T r=(Y,0,0):=by
 unfold procR
 rw[if_neg (by omega),if_neg hr,hd]
 simp only
 rw[if_neg (by simp),hp]
theorem idn_again {T:Tb} (h:Made T) {s r:List UInt8} (ha:(toaR T s).2.2=0) (hr:r≠[]) (hd:decU r=((toaR T s).1,0,0)∨decU r=((touR T s).1,0,0)):toaR T r=toaR T s∧touR T r=touR T s:=by
 obtain⟨hp,e1⟩:=toaR_ok ha
 obtain⟨hc,hs,_,_,hv,hdm,hne,e2⟩:=procR_ok hp
 have ha2:=ha
 rw[e1]at ha2
 obtain⟨he,e3,hn⟩:=ascL_ok ha2
 apply toa_same
 rw[e2]
 rcases hd with hd|hd
 ·rw[e1,e3]at hd
  exact procR_of hc hr hd (proc_ascii h hv hne hdm he hn)
 ·have e4:touR T s=(joinD (procR T s).1,0,0):=by unfold touR;rw[if_neg (by omega)]
  rw[e4]at hd
  exact procR_of hc hr hd (proc_fixed h hv hne hdm (by have:=join_le he;omega))
def nrmR (T:Tb) (s:List UInt8):List Int × Nat × Int :=
 if checkT T≠0 then([],0,2)else if s=[] then([],0,10)else if(decU s).2.2≠0 then([],(decU s).2) else
 if(mapR T (decU s).1).2.2≠0 then([],(mapR T (decU s).1).2) else(nfcL T (mapR T (decU s).1).1,0,nfdE T (mapR T (decU s).1).1)
theorem procR_nrm (T:Tb) (s:List UInt8):procR T s=if(nrmR T s).2.2≠0 then([],(nrmR T s).2)else procL T (nrmR T s).1:=by
 unfold procR nrmR
 by_cases h1:checkT T=0
 ·have h1:¬checkT T≠0:=by omega
  rw[if_neg h1,if_neg h1]
  by_cases h2:s=[]
  ·rw[if_pos h2,if_pos h2,if_pos (by simp)]
  ·rw[if_neg h2,if_neg h2]
   by_cases h3:(decU s).2.2=0
   ·have h3:¬(decU s).2.2≠0:=by omega
    rw[if_neg h3,if_neg h3]
    unfold procM
    by_cases h4:(mapR T (decU s).1).2.2=0
    ·have h4:¬(mapR T (decU s).1).2.2≠0:=by omega
     rw[if_neg h4,if_neg h4]
    ·rw[if_pos h4,if_pos h4,if_pos h4]
   ·rw[if_pos h3,if_pos h3,if_pos h3]
 ·rw[if_pos h1,if_pos h1,if_pos (by simp)]
theorem nrmR_len {T:Tb} {s:List UInt8}:(nrmR T s).1.length≤4096:=by
 unfold nrmR
 repeat' split
 all_goals first|exact nfcL_len T _|simp
theorem decU_len (L:List UInt8):(decU L).1.length≤4096:=by
 unfold decU
 split
 ·simp
 ·split
  ·simp
  ·have:=(dec_bd L.length L (Nat.le_refl _)).2
   have:=(dec_bd L.length L (Nat.le_refl _)).1
   simp only
   omega
theorem ascQ_mem {l:List Int} (h:ascQ l=true):∀c∈l,0≤c∧c≤127:=fun c hc=>by
 have:=List.all_eq_true.1 h c hc
 simpa using this
theorem flat_one {l:List Int} (h:∀c∈l,0≤c∧c≤127):flat l=l:=by
 induction l with
 | nil=>rfl
 | cons c r ih =>
  have hc:=h c (by simp)
  have e:encB c=[c]:=if_pos hc.2
  unfold flat at ih ⊢
  rw[List.flatMap_cons,e,ih (fun d hd=>h d (by simp[hd]))];rfl
theorem sca_allS {l:List Int} (h:l.all scaB=true):allS l=true:=by
 unfold allS
 refine List.all_eq_true.2 fun c hc=>?_
 have:=List.all_eq_true.1 h c hc
 unfold scaB at this
 simp at this
 have:lenS c≠0:=by unfold lenS;omega
 simp[this]
theorem small_sca {l:List Int} (h:∀c∈l,0≤c∧c≤127):l.all scaB=true:=List.all_eq_true.2 fun c hc=>by
 have:=h c hc
 unfold scaB
 simp;omega
theorem enc_asc {l:List Int} (h:ascQ l=true) (hl:l.length≤4096):encodeS l=(strOfNums l,0):=by
 have hm:=ascQ_mem h
 unfold encodeS
 rw[if_neg (by omega),if_pos (sca_allS (small_sca hm)),flat_one hm]
theorem enc_sca {l:List Int} (h:l.all scaB=true) (hl:l.length≤4096):encodeS l=(strOfNums (flat l),0):=by
 unfold encodeS
 rw[if_neg (by omega),if_pos (sca_allS h)]
theorem dec_sca {l:List Int} (h:l.all scaB=true) (hl:l.length≤1000):decU (strOfNums (flat l)).data.toList=(l,0,0):=by
 rw[strOfNums_flat]
 have h1:=dec_flatU [] l (sca_allS h)
 have h0:dec ([]:List UInt8)=([],0):=by simp[dec,decUS]
 rw[List.append_nil,h0,List.append_nil]at h1
 have h2:(flatU l).length≤4*l.length:=by
  rw[←strOfNums_flat]
  have:(strOfNums (flat l)).data.toList.length=(flat l).length:=strOfNums_size _
  rw[this];exact flat_bd l
 unfold decU
 rw[if_neg (by omega),h1,if_neg (by simp)]
theorem dec_small {l:List Int} (h:∀c∈l,0≤c∧c≤127) (hl:l.length≤1000):decU (strOfNums l).data.toList=(l,0,0):=by
 have:=dec_sca (small_sca h) hl
 rwa[flat_one h]at this
theorem labK_bad {T:Tb}:∀(X:List (List Int)) (k j:Nat),j<X.length→(∀i,i<j→(lab1 T (X.getD i [])).2=0)→(lab1 T (X.getD j [])).2≠0→labK T k X=([],k+j,(lab1 T (X.getD j [])).2)
 | [],k,j,h,_,_=>by simp at h
 | x::r,k,0,h,_,h2=>by
  have h2:(lab1 T x).2≠0:=h2
  rw[labK,if_pos h2];rfl
 | x::r,k,j+1,h,h1,h2=>by
  have h0:(lab1 T x).2=0:=h1 0 (by omega)
  have e:(x::r).getD (j+1) []=r.getD j []:=by simp
  rw[e]at h2 ⊢
  have hr:=labK_bad r (k+1) j (by simpa using h) (fun i hi=>by have:=h1 (i+1) (by omega);simpa using this) h2
  rw[labK,if_neg (by omega),hr,if_pos h2,show k+1+j=k+(j+1) by omega]
theorem labK_map {T:Tb}:∀(X:List (List Int)) (k:Nat),(∀x∈X,(lab1 T x).2=0)→labK T k X=(X.map fun x=>(lab1 T x).1,0,0)
 | [],k,_=>rfl
 | y::r,k,h=>by
  rw[labK,if_neg (by have:=h y (by simp);omega),labK_map r (k+1) (fun z hz=>h z (by simp[hz]))]
  simp
theorem encK_bad:∀(X:List (List Int)) (k j:Nat),j<X.length→(∀i,i<j→(labS (X.getD i [])).2=0)→(labS (X.getD j [])).2≠0→encK k X=([],k+j,(labS (X.getD j [])).2)
 | [],k,j,h,_,_=>by simp at h
 | x::r,k,0,h,_,h2=>by
  have h2:(labS x).2≠0:=h2
  rw[encK,if_pos h2];rfl
 | x::r,k,j+1,h,h1,h2=>by
  have h0:(labS x).2=0:=h1 0 (by omega)
  have e:(x::r).getD (j+1) []=r.getD j []:=by simp
  rw[e]at h2 ⊢
  have hr:=encK_bad r (k+1) j (by simpa using h) (fun i hi=>by have:=h1 (i+1) (by omega);simpa using this) h2
  rw[encK,if_neg (by omega),hr,if_pos h2,show k+1+j=k+(j+1) by omega]
theorem encK_map:∀(Y:List (List Int)) (k:Nat),(∀y∈Y,(labS y).2=0)→encK k Y=(Y.map fun y=>(labS y).1,0,0)
 | [],k,_=>rfl
 | y::r,k,h=>by
  rw[encK,if_neg (by have:=h y (by simp);omega),encK_map r (k+1) (fun z hz=>h z (by simp[hz]))]
  simp
def midU (T:Tb) (X:List (List Int)) (k:Nat):List (List Int):=(X.take k).map (fun x=>(lab1 T x).1)++X.drop k
theorem midU_zero (T:Tb) (X:List (List Int)):midU T X 0=X:=by simp[midU]
theorem midU_full (T:Tb) (X:List (List Int)):midU T X X.length=X.map fun x=>(lab1 T x).1:=by simp[midU]
theorem midU_len (T:Tb) (X:List (List Int)) (k:Nat):(midU T X k).length=X.length:=by simp[midU];omega
theorem midU_at (T:Tb) (X:List (List Int)) (k:Nat) (h:k<X.length):(midU T X k).getD k []=X.getD k []:=by
 unfold midU
 have hk:((X.take k).map fun x=>(lab1 T x).1).length=k:=by simp;omega
 simp only[List.getD]
 rw[List.getElem?_append_right (by omega),hk,Nat.sub_self,List.getElem?_drop,Nat.add_zero]
theorem midU_set (T:Tb) (X:List (List Int)) (k:Nat) (h:k<X.length):(midU T X k).set k (lab1 T (X.getD k [])).1=midU T X (k+1):=by
 unfold midU
 have hk:((X.take k).map fun x=>(lab1 T x).1).length=k:=by simp;omega
 have hd:X.drop k=X.getD k []::X.drop (k+1):=by
  rw[List.drop_eq_getElem_cons h];simp[List.getD,h]
 have ht:X.take (k+1)=X.take k++[X.getD k []]:=by
  rw[List.take_succ_eq_append_getElem h];simp[List.getD,h]
 rw[List.set_append,if_neg (by omega),hk,Nat.sub_self,hd,List.set_cons_zero,ht,List.map_append,List.map_singleton,List.append_assoc]
 rfl
theorem procL_bad {T:Tb} {m:List Int} {j:Nat} (hj:j<(cutD m).length) (h1:∀i,i<j→(lab1 T ((cutD m).getD i [])).2=0) (h2:(lab1 T ((cutD m).getD j [])).2≠0):procL T m=([],j,(lab1 T ((cutD m).getD j [])).2):=by
 unfold procL
 rw[labK_bad _ 0 j hj h1 h2]
 simp only
 rw[if_pos h2,Nat.zero_add]
theorem mem_getDI {X:List (List Int)} {P:List Int→Prop} (h:∀i,i<X.length→P (X.getD i [])):∀x∈X,P x:=fun x hx=>by
 obtain⟨i,hi,e⟩:=List.getElem_of_mem hx
 have:=h i hi
 simp[List.getD,hi]at this
 rwa[e]at this
theorem domR_nat (T:Tb) (L:List (List Int)):((domR T L).1.toNat:Int)=(domR T L).1:=by
 unfold domR
 repeat' split
 all_goals simp
theorem procL_done {T : Tb} {m : List Int} {K E : Int} (h : ∀ i, i < (cutD m).length → (lab1 T ((cutD m).getD i [])).2 = 0) (hd : domR T ((cutD m).map fun x => (lab1 T x).1) = (K, E)) :
  procL T m=if E≠0 then([],K.toNat,E) else((cutD m).map fun x=>(lab1 T x).1,0,0):=by
 unfold procL
 rw[labK_map _ 0 (mem_getDI (P:=fun x=>(lab1 T x).2=0) h)]
 simp only
 rw[if_neg (by simp),hd]
theorem lab1_acc {T:Tb} {x:List Int} (h:(lab1 T x).2=0):(lab1 T x).1.length≤4096:=(accE_ok (val_ok (lab1_ok h).1).1).2.1
theorem asc_bytes {T:Tb} {y:List Int} (h:valR T y=0) (he:(labS y).2=0):nums (strOfNums (labS y).1)=(labS y).1 :=
 nums_of _ fun c hc=>by
  have:=labS_ldh h he c hc
  unfold ldh at this
  omega
theorem chkD_zero {L:List Nat} (h:∀n∈L,1≤n∧n≤63):(chkD L).1=0:=by
 unfold chkD
 split
 ·rfl
 ·rw[chkK_all 0 L h]
  simp only
  split<;>rfl
theorem asc_name {T : Tb} {Y : List (List Int)} (hv : ∀ y ∈ Y, valR T y = 0) (he : ∀ y ∈ Y, (labS y).2 = 0) :
  nameE (Y.map fun y=>strOfNums (labS y).1)=(strOfNums (ascL Y).1,(ascL Y).2.2)∧(ascL Y).2.1=0:=by
 have e1:(Y.map fun y=>strOfNums (labS y).1).map ByteArray.size=(Y.map fun y=>(labS y).1).map List.length:=by
  rw[List.map_map,List.map_map]
  exact List.map_congr_left fun y _=>strOfNums_size _
 have e2:(Y.map fun y=>strOfNums (labS y).1).map nums=Y.map fun y=>(labS y).1:=by
  rw[List.map_map]
  exact List.map_congr_left fun y hy=>asc_bytes (hv y hy) (he y hy)
 have hz:(chkD ((Y.map fun y=>(labS y).1).map List.length)).1=0:=chkD_zero fun n hm=>by
  obtain⟨z,hz,rfl⟩:=List.mem_map.1 hm
  obtain⟨y,hy,rfl⟩:=List.mem_map.1 hz
  have:=labS_ge (he y hy)
  omega
 unfold nameE ascL
 rw[encK_map Y 0 he,e1]
 simp only
 rw[if_neg (show ¬(0:Int)≠0 by simp)]
 by_cases hc:(chkD ((Y.map fun y=>(labS y).1).map List.length)).2=0
 ·have hc2:¬(chkD ((Y.map fun y=>(labS y).1).map List.length)).2≠0:=by omega
  rw[if_neg hc2,if_neg hc2]
  unfold nameB
  rw[e2]
  exact⟨rfl,rfl⟩
 ·rw[if_pos hc,if_pos hc]
  exact⟨rfl,hz⟩
theorem ascL_bad {Y:List (List Int)} {j:Nat} (hj:j<Y.length) (h1:∀i,i<j→(labS (Y.getD i [])).2=0) (h2:(labS (Y.getD j [])).2≠0):ascL Y=([],j,(labS (Y.getD j [])).2):=by
 unfold ascL
 rw[encK_bad Y 0 j hj h1 h2]
 simp only
 rw[if_pos h2,Nat.zero_add]
theorem tou_enc {T:Tb} {s:List UInt8} (h:(toaR T s).2.2=0):encodeS (joinD (procR T s).1)=(strOfNums (flat (joinD (procR T s).1)),0)∧(joinD (procR T s).1).length≤253:=by
 obtain⟨h1,h2⟩:=toaR_ok h
 obtain⟨_,_,_,_,h3,_,_,_⟩:=procR_ok h1
 rw[h2]at h
 obtain⟨h4,h5,h6⟩:=ascL_ok h
 have hl:=join_le h4
 exact⟨enc_sca (join_sca fun y hy=>(valid_parts (h3 y hy)).2.2.2.1) (by omega),by omega⟩
theorem cut_asc {Y:List (List Int)} {T:Tb} (hv:∀y∈Y,valR T y=0) (hne:Y≠[]) (he:∀y∈Y,(labS y).2=0):cutD (joinD (Y.map fun y=>(labS y).1))=Y.map fun y=>(labS y).1 :=
 cut_join _ (by simpa using hne) (fun x hx hm=>by
  obtain⟨y,hy,rfl⟩:=List.mem_map.1 hx
  have:=labS_ldh (hv y hy) (he y hy) 46 hm
  unfold ldh at this;omega)
theorem toa_out {T:Tb} {s:List UInt8} (h:(toaR T s).2.2=0):(∀c∈(toaR T s).1,ldh c∨c=46)∧1≤(toaR T s).1.length∧(toaR T s).1.length≤253∧(toaR T s).2.1=0∧chkD ((cutD (toaR T s).1).map List.length)=(0,0):=by
 obtain⟨hp,e1⟩:=toaR_ok h
 obtain⟨_,_,_,_,hv,_,hne,_⟩:=procR_ok hp
 have h2:=h
 rw[e1]at h2
 obtain⟨he,e3,hn⟩:=ascL_ok h2
 rw[e1,e3]
 simp only
 have hl:∀c∈joinD ((procR T s).1.map fun y=>(labS y).1),ldh c∨c=46:=join_all (P:=fun c=>ldh c∨c=46) (.inr rfl) _ (fun x hx c hc=>by
  obtain⟨y,hy,rfl⟩:=List.mem_map.1 hx
  exact .inl (labS_ldh (hv y hy) (he y hy) c hc))
 refine⟨hl,?_,hn,trivial,?_⟩
 ·cases hY:(procR T s).1 with
  | nil=>exact absurd hY hne
  | cons y r =>
   have:=(labS_ge (he y (by rw[hY];simp))).2.2.2
   cases r with
   | nil=>simpa[joinD] using this
   | cons z r=>rw[List.map_cons,joinD_cons _ (by simp),List.length_append];omega
 ·rw[cut_asc hv hne he]
  have h3:=h2
  unfold ascL at h3
  obtain⟨i1,i2⟩:=encK_ok (procR T s).1 0 (by
   by_cases h1:(encK 0 (procR T s).1).2.2=0
   ·exact h1
   ·rw[if_pos h1]at h3;exact h3)
  rw[i1]at h3
  simp only at h3
  rw[if_neg (by simp)]at h3
  by_cases h4:(chkD (((procR T s).1.map fun y=>(labS y).1).map List.length)).2=0
  ·have h5:=chkD_ok h4
   have h6:=chkK_all 0 _ h5.2.1
   unfold chkD
   rw[if_neg h5.1,h6]
   simp only
   rw[if_neg (by have:=h5.2.2;omega)]
  ·rw[if_pos h4]at h3;exact absurd h3 h4
theorem ascL_err {Y:List (List Int)} (h:(ascL Y).2.2≠0):(ascL Y).1=[]:=by
 unfold ascL at h ⊢
 split
 ·rfl
 ·rename_i h1
  rw[if_neg h1]at h
  split
  ·rfl
  ·rename_i h2
   rw[if_neg h2]at h
   exact absurd rfl h
theorem toaR_err {T:Tb} {s:List UInt8} (h:(toaR T s).2.2≠0):(toaR T s).1=[]:=by
 unfold toaR at h ⊢
 split
 ·rfl
 ·rename_i h1
  rw[if_neg h1]at h
  exact ascL_err h
theorem touR_err {T:Tb} {s:List UInt8} (h:(toaR T s).2.2≠0):touR T s=([],(toaR T s).2):=by unfold touR;rw[if_pos h]
theorem touR_ok {T:Tb} {s:List UInt8} (h:(toaR T s).2.2=0):touR T s=(joinD (procR T s).1,0,0):=by unfold touR;rw[if_neg (by omega)]
theorem join_pos {Y:List (List Int)} (hne:Y≠[]) (h:∀y∈Y,y≠[]):1≤(joinD Y).length:=by
 cases Y with
 | nil=>exact absurd rfl hne
 | cons y r =>
  have:=List.length_pos_iff.2 (h y (by simp))
  rw[join_len]
  simp
  omega
theorem flat_pos {l:List Int} (h:1≤l.length):1≤(flat l).length:=by
 cases l with
 | nil=>simp at h
 | cons c r =>
  unfold flat
  rw[List.flatMap_cons,List.length_append]
  have:1≤(encB c).length:=by
   unfold encB
   repeat' split
   all_goals simp
  omega
theorem idn_fix {T : Tb} (h : Made T) {s : List UInt8} {A U : List Int} {K : Nat} (ha : toaR T s = (A, K, 0)) (hu : touR T s = (U, 0, 0)) {SA SU : ByteArray} (hA : strOfNums A = SA) (hU : (encodeS U).1 = SU) :
  (toaR T SA.data.toList=(A,K,0)∧touR T SA.data.toList=(U,0,0))∧(toaR T SU.data.toList=(A,K,0)∧touR T SU.data.toList=(U,0,0))∧SA.size≤253∧SU.size≤1012:=by
 have h0:(toaR T s).2.2=0:=by rw[ha]
 obtain⟨h1,h2,h3,h4,h5⟩:=toa_out h0
 rw[ha]at h1 h2 h3
 simp only at h1 h2 h3
 have hsA:SA.size=A.length:=by rw[←hA,strOfNums_size]
 have hdA:decU SA.data.toList=(A,0,0):=by
  rw[←hA]
  exact dec_small (fun c hc => by rcases h1 c hc with h | h; · unfold ldh at h; omega
                                  ·omega) (by omega)
 have hneA:SA.data.toList≠[]:=fun e=>by
  have:SA.data.toList.length=0:=by rw[e];rfl
  have e2:SA.data.toList.length=SA.size:=rfl
  omega
 have hUe:U=joinD (procR T s).1:=by have:=touR_ok h0;rw[hu]at this;injection this
 obtain⟨t1,t2⟩:=tou_enc h0
 obtain⟨p1,_⟩:=toaR_ok h0
 obtain⟨_,_,_,_,p2,_,p3,_⟩:=procR_ok p1
 rw[←hUe]at t1 t2
 have hSU:SU=strOfNums (flat U):=by rw[←hU,t1]
 have hsc:U.all scaB=true:=by rw[hUe];exact join_sca fun y hy=>(valid_parts (p2 y hy)).2.2.2.1
 have hU1:1≤U.length:=by rw[hUe];exact join_pos p3 fun y hy=>(valid_parts (p2 y hy)).1
 have hdU:decU SU.data.toList=(U,0,0):=by rw[hSU];exact dec_sca hsc (by omega)
 have hsU:SU.size=(flat U).length:=by rw[hSU,strOfNums_size]
 have hfU:=flat_pos hU1
 have hfB:=flat_bd U
 have hneU:SU.data.toList≠[]:=fun e=>by
  have:SU.data.toList.length=0:=by rw[e];rfl
  have e2:SU.data.toList.length=SU.size:=rfl
  omega
 have r1:=idn_again h h0 hneA (.inl (by rw[hdA,ha]))
 have r2:=idn_again h h0 hneU (.inr (by rw[hdU,hu]))
 rw[ha,hu]at r1 r2
 exact⟨r1,r2,by omega,by omega⟩
theorem idn_out {T : Tb} {s : List UInt8} {A : List Int} {K : Nat} (ha : toaR T s = (A, K, 0)) {SA : ByteArray} (hA : strOfNums A = SA) :
  nums SA=A∧(∀c∈A,ldh c∨c=46)∧1≤A.length∧A.length≤253∧K=0∧chkD ((strsD SA).map ByteArray.size)=(0,0):=by
 have h0:(toaR T s).2.2=0:=by rw[ha]
 obtain⟨h1,h2,h3,h4,h5⟩:=toa_out h0
 rw[ha]at h1 h2 h3 h4 h5
 simp only at h1 h2 h3 h4 h5
 have hn:nums SA=A:=by
  rw[←hA]
  exact nums_of _ fun c hc => by rcases h1 c hc with h | h; · unfold ldh at h; omega
                                 ·omega
 refine⟨hn,h1,h2,h3,h4,?_⟩
 rw[←h5]
 unfold strsD
 rw[hn,List.map_map]
 congr 1
 exact List.map_congr_left fun y _=>strOfNums_size y
end Go.Proofs.YtblcoicaeeiojaaGreatDoor
