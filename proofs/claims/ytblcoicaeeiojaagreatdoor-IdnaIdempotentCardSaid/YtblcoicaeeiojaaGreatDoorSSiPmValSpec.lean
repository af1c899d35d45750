/- joiner: what the functions of the layer return, as functions -/
import Derived.Test.YtblcoicaeeiojaaGreatDoorSSiPmSplSpec
import Derived.Test.YtblcoicaeeiojaaGreatDoorSSiPmOrdB
import Derived.Test.YtblcoicaeeiojaaGreatDoorSSiCmpSpec
import Derived.Test.YtblcoicaeeiojaaGreatDoorSSiTblSpec
import Derived.Test.YtblcoicaeeiojaaGreatDoorSSiPmMapSpec
import Derived.Test.YtblcoicaeeiojaaGreatDoorSSiPmBidFact
set_option linter.unusedSimpArgs false
set_option linter.unusedVariables false
namespace Go.Proofs.YtblcoicaeeiojaaGreatDoor
def okI (T:Tb) (l:List Int) (i:Int):Prop:=0≤i∧i<l.length∧accE T l=0
instance (T:Tb) (l:List Int) (i:Int):Decidable (okI T l i):=by unfold okI;exact inferInstance
def chkJ (T:Tb) (l:List Int):Int × Int:=if accE T l≠0 then(0,accE T l)else match badJ T l l.length 0 with
 | some k=>((k:Int),17)
 | none=>(0,0)
inductive Rn (T:Tb):Int→List Int→List Int→Int→List Int→Prop
 | nil (s:Int) (M:List Int):Rn T s M [] s M
 | mark {s c s':Int} {M r M':List Int}:secB T c=false→0<clsT T c→Rn T s (M++[c]) r s' M'→Rn T s M (c::r) s' M'
 | comp {s c p s':Int} {M r M':List Int}:unbl T M c→pairO T s c=some p→Rn T p M r s' M'→Rn T s M (c::r) s' M'
theorem Rn.go {T:Tb} (h:checkT T=0) {s s':Int} {M W M':List Int} (hr:Rn T s M W s' M') (r:List Int):goN T s M (W++r)=goN T s' M' r:=by
 induction hr with
 | nil s M=>rfl
 | mark hc hp _ ih=>rw[List.cons_append,goN_mark (stepO_no (pair_no h hc)) (by omega)];exact ih
 | comp hu hp _ ih=>rw[List.cons_append,goN_some (stepO_yes hu hp)];exact ih
theorem Rn.sub {T:Tb} {s s':Int} {M W M':List Int} (hr:Rn T s M W s' M'):∀x∈M,x∈M':=by
 induction hr with
 | nil s M=>exact fun x hx=>hx
 | mark _ _ _ ih=>exact fun x hx=>ih x (by simp[hx])
 | comp _ _ _ ih=>exact ih
theorem Rn.pos {T:Tb} {s s':Int} {M W M':List Int} (hr:Rn T s M W s' M') (hM:∀x∈M,0<clsT T x):∀x∈M',0<clsT T x:=by
 induction hr with
 | nil s M=>exact hM
 | mark _ hp _ ih =>
  refine ih fun x hx=>?_
  rcases List.mem_append.1 hx with hx|hx
  ·exact hM x hx
  ·simp at hx;subst hx;exact hp
 | comp _ _ _ ih=>exact ih hM
theorem Rn.snoc {T:Tb} {s s' c p:Int} {M W M':List Int} (hr:Rn T s M W s' M') (hu:unbl T M' c) (hp:pairO T s' c=some p):Rn T s M (W++[c]) p M':=by
 induction hr with
 | nil s M=>exact .comp hu hp (.nil _ _)
 | mark h1 h2 _ ih=>exact .mark h1 h2 (ih hu hp)
 | comp h1 h2 _ ih=>exact .comp h1 h2 (ih hu hp)
def insF (k:Int→Int) (m:Int):List Int→List Int
 | []=>[m]
 | c::r=>if(c::r).all (fun y=>decide (k m<k y))=true then m::c::r else c::insF k m r
theorem insF_gt (k:Int→Int) (m y:Int) (W:List Int) (h:k m<k y):insF k m (W++[y])=insF k m W++[y]:=by
 induction W with
 | nil=>simp[insF,h]
 | cons c r ih =>
  rw[List.cons_append,insF,insF]
  have e:(c::(r++[y])).all (fun y=>decide (k m<k y))=(c::r).all (fun y=>decide (k m<k y)):=by simp[h]
  rw[e]
  split
  ·simp
  ·rw[ih];rfl
theorem insF_le (k:Int→Int) (m y:Int) (W:List Int) (h:¬k m<k y):insF k m (W++[y])=W++[y]++[m]:=by
 induction W with
 | nil=>simp[insF,h]
 | cons c r ih =>
  rw[List.cons_append,insF]
  have e:(c::(r++[y])).all (fun y=>decide (k m<k y))=false:=by simp[h]
  rw[e,if_neg (by simp),ih]
  simp
theorem insF_insR (k:Int→Int) (m:Int) (R:List Int) (h:0<k m):(insR k m R).reverse=insF k m R.reverse:=by
 induction R with
 | nil=>rfl
 | cons y r ih =>
  by_cases hc:k m<k y
  ·rw[insR,if_pos ⟨h,hc⟩,List.reverse_cons,ih,List.reverse_cons,insF_gt k m y _ hc]
  ·rw[insR,if_neg (fun hh=>hc hh.2),List.reverse_cons,List.reverse_cons,insF_le k m y _ hc]
theorem ordS_insF (k:Int→Int) (L:List Int) (m:Int) (h:0<k m):ordS k (L++[m])=insF k m (ordS k L):=by
 unfold ordS
 rw[ordR_snoc,insF_insR k m _ h]
theorem insF_pass (k:Int→Int) (m s:Int) (D W:List Int) (hm:0<k m) (hs:k s=0):insF k m (D++s::W)=D++s::insF k m W:=by
 induction D with
 | nil =>
  rw[List.nil_append,insF]
  have e:(s::W).all (fun y=>decide (k m<k y))=false:=by
   have:¬k m<k s:=by omega
   simp[this]
  rw[e,if_neg (by simp)];rfl
 | cons c r ih =>
  rw[List.cons_append,insF]
  have e:(c::(r++s::W)).all (fun y=>decide (k m<k y))=false:=by
   have:¬k m<k s:=by omega
   simp[this]
  rw[e,if_neg (by simp),ih];rfl
theorem Rn.late {T:Tb} {s s' m:Int} {M W M':List Int} (hr:Rn T s M W s' M') (hW:∀x∈W,clsT T m<clsT T x) (hM:∀x∈M',clsT T x≤clsT T m):Rn T s (M++[m]) W s' (M'++[m]):=by
 induction hr with
 | nil s M=>exact .nil _ _
 | mark h1 h2 hr ih =>
  rename_i s c s' M r M'
  have a:=hM c (hr.sub c (by simp))
  have b:=hW c (by simp)
  omega
 | comp h1 h2 hr ih =>
  rename_i s c p s' M r M'
  refine .comp ?_ h2 (ih (fun x hx=>hW x (by simp[hx])) hM)
  intro x hx
  simp at hx
  subst hx
  exact hW c (by simp)
theorem Rn.ins {T:Tb} {s s' m:Int} {M W M':List Int} (hr:Rn T s M W s' M') (hm:secB T m=false) (h0:0<clsT T m) (hM:∀x∈M',clsT T x≤clsT T m):Rn T s M (insF (clsT T) m W) s' (M'++[m]):=by
 induction hr with
 | nil s M=>exact .mark hm h0 (.nil _ _)
 | mark h1 h2 hr ih =>
  rename_i s c s' M r M'
  have a:=hM c (hr.sub c (by simp))
  have e:(c::r).all (fun y=>decide (clsT T m<clsT T y))=false:=by
   have:¬clsT T m<clsT T c:=by omega
   simp[this]
  rw[insF,e,if_neg (by simp)]
  exact .mark h1 h2 (ih hM)
 | comp h1 h2 hr ih =>
  rename_i s c p s' M r M'
  rw[insF]
  split
  ·rename_i hall
   rw[List.all_eq_true]at hall
   exact .mark hm h0 ((Rn.comp h1 h2 hr).late (fun x hx=>by simpa using hall x hx) hM)
  ·exact .comp h1 h2 (ih hM)
theorem unbl_nil (T:Tb) (c:Int):unbl T [] c:=by intro m hm;cases hm
def Starts (T:Tb) (y:Int):Prop:=∃s0 W,expT T y=s0::W∧clsT T s0=0∧Rn T s0 [] W y []∧inOrd (clsT T) (s0::W)
theorem comp_starts {T:Tb} (h:checkT T=0) (k:Nat):∀x,Dp T.dec k x→compT T x=true→Starts T x:=by
 induction k with
 | zero=>intro x hd hx;exact absurd hd (comp_ne h hx)
 | succ k ih =>
  intro x hd hx
  obtain⟨a,b,hf,c1,c2,fb,ha,hb⟩:=comp_two h hx
  have hp:=pair_comp h hx hf
  have he:=(pair_exp h hp fb).1
  have ma:a∈findM T.dec x:=by rw[hf];simp
  have da:=(dec_part h ma).2
  rcases ha with ha|ha
  ·refine⟨a,[b],?_,c2,.comp (unbl_nil T b) hp (.nil _ _),⟨by omega,trivial⟩⟩
   rw[he,exp_one da ha];rfl
  ·obtain⟨s0,W,e1,e2,e3,e4⟩:=ih a (hd a ma) ha
   refine⟨s0,W++[b],by rw[he,e1];rfl,e2,e3.snoc (unbl_nil T b) hp,?_⟩
   have e5:expT T a=ful T.dec a:=by unfold expT;rw[if_pos da]
   obtain⟨N,l,hN⟩:∃N l,s0::W=N++[l]:=⟨(s0::W).dropLast,(s0::W).getLast (by simp),(List.dropLast_concat_getLast (by simp)).symm⟩
   have hl:lastF T.dec a=l:=by
    unfold lastF
    rw[←e5,e1,hN]
    simp
   rw[hl]at hb
   have e6:s0::(W++[b])=N++[l,b]:=by rw[←List.cons_append,hN];simp
   rw[e6,inOrd_snoc,←hN]
   exact⟨e4,by omega⟩
theorem pair_hangul {T:Tb} {a b:Int} (h:(compS a b).2=true):pairO T a b=some (compS a b).1:=by
 unfold pairO;rw[if_pos h]
theorem syl_starts {T:Tb} (h:checkT T=0) (y:Int) (hy:decS y≠[]):Starts T y:=by
 have hr:44032≤y∧y≤55203:=by
  apply Classical.byContradiction
  intro hn
  exact hy (decS_nil.2 hn)
 have he:expT T y=decS y:=by unfold expT;rw[if_neg hy]
 obtain⟨i,hi⟩:∃i,(y-44032) / 28 / 21=i:=⟨_,rfl⟩
 obtain⟨j,hj⟩:∃j,(y-44032) / 28%21=j:=⟨_,rfl⟩
 obtain⟨q,hq⟩:∃q,(y-44032)%28=q:=⟨_,rfl⟩
 have hd:decS y=if q=0 then [4352+i,4449+j]else [4352+i,4449+j,4519+q]:=by
  unfold decS
  rw[if_pos hr,hi,hj,hq]
 have hib:0≤i∧i<19:=by omega
 have hjb:0≤j∧j<21:=by omega
 have hqb:0≤q∧q<28:=by omega
 have hy2:y=44032+(21*i+j)*28+q:=by omega
 have k1:kindS (4352+i)=1:=kindS_1.2 (by omega)
 have k2:kindS (4449+j)=2:=kindS_2.2 (by omega)
 have c1:clsT T (4352+i)=0:=cls_res h (resB_iff.2 (by omega))
 have c2:clsT T (4449+j)=0:=cls_res h (resB_iff.2 (by omega))
 have p1:pairO T (4352+i) (4449+j)=some (44032+(21*i+j)*28):=by
  have e:=compS_12 k1 k2
  rw[pair_hangul (by rw[e]),e]
  simp only[Option.some.injEq]
  omega
 by_cases h0:q=0
 ·rw[if_pos h0]at hd
  refine⟨4352+i,[4449+j],by rw[he,hd],c1,?_,⟨by omega,trivial⟩⟩
  have e:44032+(21*i+j)*28=y:=by omega
  rw[e]at p1
  exact .comp (unbl_nil T _) p1 (.nil _ _)
 ·rw[if_neg h0]at hd
  have c3:clsT T (4519+q)=0:=cls_res h (resB_iff.2 (by omega))
  have k3:kindS (4519+q)=3:=kindS_3.2 (by omega)
  have k4:kindS (44032+(21*i+j)*28)=4:=kindS_4.2 (by omega)
  have p2:pairO T (44032+(21*i+j)*28) (4519+q)=some y:=by
   have e:=compS_43 k4 k3
   rw[pair_hangul (by rw[e]),e]
   simp only[Option.some.injEq]
   omega
  exact⟨4352+i,[4449+j,4519+q],by rw[he,hd],c1,.comp (unbl_nil T _) p1 (.comp (unbl_nil T _) p2 (.nil _ _)),⟨by omega,by omega,trivial⟩⟩
theorem starts {T:Tb} (h:checkT T=0) (y:Int) (h0:clsT T y=0) (he:CElt T y):Starts T y:=by
 by_cases hd:decS y=[]
 ·rcases he.2 with hf|hc
  ·exact⟨y,[],exp_one hd hf,h0,.nil _ _,trivial⟩
  ·exact comp_starts h 256 y (dec_dp h y) hc
 ·exact syl_starts h y hd
theorem mark_fin {T:Tb} (h:checkT T=0) {m:Int} (h0:0<clsT T m) (he:CElt T m):Fin1 T m:=by
 refine⟨he.1,?_,?_⟩
 ·rcases he.2 with hf|hc
  ·exact hf
  ·obtain⟨_,_,_,c1,_⟩:=comp_two h hc
   omega
 ·apply Classical.byContradiction
  intro hn
  have:44032≤m∧m≤55203:=by
   apply Classical.byContradiction
   intro hh
   exact hn (decS_nil.2 hh)
  have:=cls_res h (c:=m) (resB_iff.2 (by omega))
  omega
theorem inOrd_le (k:Int→Int) (M:List Int) (c:Int) (ho:inOrd k (M++[c])) (hM:∀m∈M,0<k m) (hc:0<k c):∀m∈M,k m≤k c:=by
 induction M with
 | nil=>simp
 | cons a r ih =>
  cases r with
  | nil =>
   intro m hm
   simp at hm
   subst hm
   have:=ho.1
   omega
  | cons b q =>
   have i1:=ih ho.2 (fun m hm=>hM m (by simp[hm]))
   have hb:=hM b (by simp)
   have h1:=ho.1
   have h2:=i1 b (by simp)
   intro m hm
   rcases List.mem_cons.1 hm with rfl|hm
   ·omega
   ·exact i1 m hm
def Seg (T:Tb) (l D:List Int):Prop :=
 ((∀c∈l,0<clsT T c)∧D=l)∨
 ∃A s M Dp s0 W,l=A++s::M∧D=Dp++s0::W∧clsT T s0=0∧(∀r,go0 T [] (Dp++s0::r)=A++goN T s0 [] r)∧Rn T s0 [] W s M
theorem go0_marks (T:Tb) (l M:List Int) (hl:∀c∈l,0<clsT T c):go0 T M l=M++l:=by
 induction l generalizing M with
 | nil=>simp[go0]
 | cons c r ih =>
  have:=hl c (by simp)
  rw[go0,if_neg (by omega),ih _ (fun y hy=>hl y (by simp[hy]))]
  simp
theorem go0_start (T:Tb) (l M:List Int) (s:Int) (r:List Int) (hl:∀c∈l,0<clsT T c) (hs:clsT T s=0):go0 T M (l++s::r)=M++l++goN T s [] r:=by
 induction l generalizing M with
 | nil=>rw[List.nil_append,go0,if_pos hs,List.append_nil]
 | cons c q ih =>
  have:=hl c (by simp)
  rw[List.cons_append,go0,if_neg (by omega),ih _ (fun y hy=>hl y (by simp[hy]))]
  simp
theorem seg_all {T:Tb} (h:checkT T=0) (q:List Int) (ho:inOrd (clsT T) q.reverse) (he:∀c∈q,CElt T c) (hs:∀c∈q,secB T ((expT T c).headD 0)=false):Seg T q.reverse (ordS (clsT T) (flatT T q.reverse)):=by
 induction q with
 | nil=>exact .inl ⟨by simp,rfl⟩
 | cons c q ih =>
  rw[List.reverse_cons]at ho ⊢
  have i:=ih (inOrd_prefix _ _ _ ho) (fun y hy=>he y (by simp[hy])) (fun y hy=>hs y (by simp[hy]))
  have hc:=he c (by simp)
  have hsc:=hs c (by simp)
  generalize q.reverse=l at ho i ⊢
  obtain⟨D,hD⟩:∃D,ordS (clsT T) (flatT T l)=D:=⟨_,rfl⟩
  have hDD:ordS (clsT T) D=D:=by rw[←hD];exact ordS_twice _ _
  have e1:flatT T (l++[c])=flatT T l++expT T c:=by rw[all_append];simp[flatT]
  rw[e1,←ordS_left,hD]
  rw[hD]at i
  by_cases h0:clsT T c=0
  ·obtain⟨s0,W,x1,x2,x3,x4⟩:=starts h c h0 hc
   rw[x1]at hsc
   have hsn:secB T s0=false:=hsc
   have hW:ordS (clsT T) W=W:=ordS_id _ _ (inOrd_suffix _ [s0] W x4)
   rw[x1,ordS_sep _ x2,hDD,hW]
   refine .inr ⟨l,c,[],D,s0,W,rfl,rfl,x2,?_,x3⟩
   intro r
   rcases i with⟨hm,rfl⟩|⟨A,s,M,Dp,t0,W',rfl,rfl,y1,y2,y3⟩
   ·have:=go0_start T D [] s0 r hm x2
    simpa using this
   ·rw[List.append_assoc,List.cons_append,y2,y3.go h,goN_start (stepO_no (pair_no h hsn)) x2]
    simp
  ·have hp:0<clsT T c:=by have:=cls_pos h c;omega
   have hf:=mark_fin h hp hc
   rw[hf.exp]at hsc ⊢
   have hsn:secB T c=false:=hsc
   rcases i with⟨hm,rfl⟩|⟨A,s,M,Dp,t0,W',rfl,rfl,y1,y2,y3⟩
   ·refine .inl ⟨?_,ordS_id _ _ ho⟩
    intro x hx
    rcases List.mem_append.1 hx with hx|hx
    ·exact hm x hx
    ·simp at hx;subst hx;exact hp
   ·rw[ordS_insF _ _ _ hp,hDD,insF_pass _ _ _ _ _ hp y1]
    have hM:=y3.pos (by simp)
    have ho2:inOrd (clsT T) (M++[c]):=inOrd_suffix _ (A++[s]) (M++[c]) (by simpa using ho)
    exact .inr ⟨A,s,M++[c],Dp,t0,_,by simp,rfl,y1,y2,y3.ins hsn hp (inOrd_le _ M c ho2 hM hp)⟩
theorem quick_nfc {T:Tb} (h:checkT T=0) (l:List Int) (ho:inOrd (clsT T) l) (he:∀c∈l,CElt T c) (hs:∀c∈l,secB T ((expT T c).headD 0)=false):nfcS T (ordS (clsT T) (flatT T l))=l:=by
 have i:=seg_all h l.reverse (by simpa using ho) (fun c hc=>he c (by simpa using hc)) (fun c hc=>hs c (by simpa using hc))
 rw[List.reverse_reverse]at i
 unfold nfcS
 rcases i with⟨hm,e⟩|⟨A,s,M,Dp,t0,W',e1,e2,y1,y2,y3⟩
 ·rw[e,go0_marks T l [] hm];simp
 ·have:=y3.go h []
  rw[List.append_nil]at this
  rw[e2,y2,this,e1];rfl
def nfcL (T:Tb) (l:List Int):List Int:=if nfdE T l=0 then nfcS T (nfdL T l)else []
def isnC (T:Tb) (l:List Int):Bool:=decide (nfdE T l=0)&&(nfcL T l==l)
def quickT (T:Tb) (l:List Int):Int :=
 if srtB T l=false then 0 else if(l.any fun c=>decide (findM T.dec c≠[]) && !compT T c)=true then 0 else if(l.any fun c=>secB T ((expT T c).headD 0))=true then 2 else 1
theorem nfcL_ok {T:Tb} {l:List Int} (h:nfdE T l=0):nfcL T l=nfcS T (nfdL T l):=if_pos h
theorem nfcL_err {T:Tb} {l:List Int} (h:nfdE T l≠0):nfcL T l=[]:=if_neg h
theorem nfd_ord {T:Tb} {l:List Int} (h:nfdE T l=0):inOrd (clsT T) (nfdL T l):=by rw[nfdL_ok h];exact ordS_inOrd _ _
theorem nfc_out {T:Tb} {l:List Int} (h:nfdE T l=0):GoOut T (nfdL T l) (nfcL T l):=by
 rw[nfcL_ok h]
 exact nfcS_out (nfd_check h) _ (nfd_ord h) (nfd_fin h)
theorem nfcL_len (T:Tb) (l:List Int):(nfcL T l).length≤4096:=by
 by_cases h:nfdE T l=0
 ·exact Nat.le_trans (nfc_out h).len (nfdL_len T l)
 ·rw[nfcL_err h];simp
theorem isn_facts {T:Tb} {l:List Int} (h:isnC T l=true):nfdE T l=0∧nfcL T l=l:=by
 unfold isnC at h
 simpa using h
theorem quick_yes {T:Tb} {l:List Int} (h:quickT T l=1) (he:nfdE T l=0):isnC T l=true:=by
 have hc:=nfd_check he
 unfold quickT at h
 split at h
 ·omega
 split at h
 ·omega
 split at h
 ·omega
 rename_i h1 h2 h3
 have ho:inOrd (clsT T) l:=by
  have:srtB T l=true:=by simpa using h1
  unfold srtB at this
  simp only[Bool.and_eq_true,decide_eq_true_eq]at this
  exact(ordS_id_iff _ _).1 this.2
 have hs:=nfd_sca he
 rw[List.all_eq_true]at hs
 have h2':∀c∈l,findM T.dec c=[]∨compT T c=true:=by
  intro c hcl
  apply Classical.byContradiction
  intro hn
  refine h2 (List.any_eq_true.2 ⟨c,hcl,?_⟩)
  have n1:findM T.dec c≠[]:=fun e=>hn (.inl e)
  have n2:compT T c=false:=by
   cases hb:compT T c with
   | false=>rfl
   | true=>exact absurd (.inr hb) hn
  rw[n2]
  simp[n1]
 have h3':∀c∈l,secB T ((expT T c).headD 0)=false:=by
  intro c hcl
  cases hb:secB T ((expT T c).headD 0) with
  | false=>rfl
  | true=>exact absurd (List.any_eq_true.2 ⟨c,hcl,hb⟩) h3
 have:=quick_nfc hc l ho (fun c hcl=>⟨hs c hcl,h2' c hcl⟩) h3'
 unfold isnC
 rw[he,nfcL_ok he,nfdL_ok he,this];simp
theorem stop_fin {T:Tb} (h:checkT T=0):Fin1 T 46∧clsT T 46=0:=⟨⟨by decide,dec_res h (by decide),by decide⟩,cls_res h (by decide)⟩
theorem stop_sec {T:Tb} (h:checkT T=0):secB T 46=false:=by
 cases hb:secB T 46 with
 | false=>rfl
 | true =>
  unfold secB at hb
  simp only[Bool.or_eq_true,decide_eq_true_eq,List.any_eq_true,Bool.and_eq_true]at hb
  rcases hb with hb|hb|⟨m,hm,h2,h3,_⟩
  ·exact absurd hb (by decide)
  ·exact absurd hb (by decide)
  ·have hx:(46:Int)∈findM T.dec m.1:=by
    rw[dec_find h hm,←h3]
    have:1<m.2.length:=by omega
    simp[this]
   have hz:=dec_forb h hx
   have hy:forb 46=true:=by decide
   rw[hy]at hz
   cases hz
theorem stop_pair {T:Tb} (h:checkT T=0) (c:Int):pairO T 46 c=none:=by
 cases hp:pairO T 46 c with
 | none=>rfl
 | some p =>
  rcases pair_cases h hp with⟨hk,_⟩|⟨hf,_⟩
  ·exfalso
   rcases hk with⟨h1,_⟩|⟨h1,_⟩<;>exact absurd h1 (by decide)
  ·have hx:=dec_forb h (c:=p) (x:=46) (by rw[hf];simp)
   have hy:forb 46=true:=by decide
   rw[hy]at hx
   cases hx
theorem goN_stop {T:Tb} (h:checkT T=0) (A B:List Int) (s:Int) (M:List Int):goN T s M (A++46::B)=goN T s M A++goN T 46 [] B:=by
 induction A generalizing s M with
 | nil=>rw[List.nil_append,goN_start (stepO_no (pair_no h (stop_sec h))) (stop_fin h).2];rfl
 | cons c r ih =>
  rw[List.cons_append]
  cases hst:stepO T s M c with
  | some p=>rw[goN_some hst,goN_some hst,ih]
  | none =>
   by_cases h0:clsT T c=0
   ·rw[goN_start hst h0,goN_start hst h0,ih];simp
   ·rw[goN_mark hst h0,goN_mark hst h0,ih]
theorem go0_stop {T:Tb} (h:checkT T=0) (A B M:List Int):go0 T M (A++46::B)=go0 T M A++goN T 46 [] B:=by
 induction A generalizing M with
 | nil =>
  have e:go0 T M (46::B)=if clsT T 46=0 then M++goN T 46 [] B else go0 T (M++[46]) B:=rfl
  rw[List.nil_append,e,if_pos (stop_fin h).2];rfl
 | cons c r ih =>
  rw[List.cons_append,go0,go0]
  by_cases h0:clsT T c=0
  ·rw[if_pos h0,if_pos h0,goN_stop h];simp
  ·rw[if_neg h0,if_neg h0,ih]
theorem goN_dead {T:Tb} (h:checkT T=0) (B M:List Int):goN T 46 M B=46::go0 T M B:=by
 induction B generalizing M with
 | nil=>rfl
 | cons c r ih =>
  have hst:stepO T 46 M c=none:=stepO_no (stop_pair h c)
  by_cases h0:clsT T c=0
  ·rw[goN_start hst h0,go0,if_pos h0];rfl
  ·rw[goN_mark hst h0,go0,if_neg h0,ih]
theorem nfc_stops {T:Tb} {a b:List Int} (ha:nfdE T a=0) (hb:nfdE T b=0) (hab:nfdE T (a++[46]++b)=0):nfcL T (a++[46]++b)=nfcL T a++[46]++nfcL T b:=by
 have h:=nfd_check ha
 have e:nfdL T (a++[46]++b)=nfdL T a++46::nfdL T b:=by
  rw[nfdL_ok hab,nfdL_ok ha,nfdL_ok hb,all_append,all_append,←ordS_sep _ (stop_fin h).2]
  congr 1
  have:flatT T [46]=[46]:=by rw[all_id];intro x hx;simp at hx;subst hx;exact(stop_fin h).1
  rw[this];simp
 rw[nfcL_ok hab,nfcL_ok ha,nfcL_ok hb,e]
 unfold nfcS
 rw[go0_stop h,goN_dead h]
 simp
def chkC (T:Tb) (l:List Int):Int × Int:=if accE T l≠0 then(0,accE T l)else match badC T l l.length 0 with
 | some k=>((k:Int),18)
 | none=>(0,0)
theorem badC_first {T:Tb} {l:List Int}:∀(d m k:Nat),m≤k→k<m+d→(∀j,m≤j→j<k→ctxB T l j=true)→ctxB T l k=false→badC T l d m=some k
 | 0,m,k,h1,h2,_,_=>by omega
 | d+1,m,k,h1,h2,hg,hz=>by
  rw[badC]
  by_cases e:m=k
  ·rw[e,if_pos hz]
  ·rw[if_neg (by rw[hg m (Nat.le_refl _) (by omega)];simp),badC_first d (m+1) k (by omega) (by omega) (fun j h3 h4=>hg j (by omega) h4) hz]
def atC (l:List Int) (i:Int):Int:=if i<0 then -1 else l.getD i.toNat (-1)
theorem atC_prv (l:List Int) (k:Nat):atC l ((k:Int)-1)=prvC l k:=by
 unfold atC prvC
 by_cases h:k=0
 ·subst h;rfl
 ·rw[if_neg (by omega),if_neg h,show ((k:Int)-1).toNat=k-1 by omega]
theorem atC_nxt (l:List Int) (k:Nat):atC l ((k:Int)+1)=nxtC l k:=by
 unfold atC nxtC
 rw[if_neg (by omega),show ((k:Int)+1).toNat=k+1 by omega]
theorem atC_in {l:List Int} {k:Nat} (h:k<l.length):atC l k=l.getD k 0:=by
 unfold atC
 rw[if_neg (by omega),Int.toNat_natCast]
 simp[List.getD,h]
theorem atC_out {l:List Int} {i:Int} (h:¬(0≤i∧i<l.length)):atC l i = -1:=by
 unfold atC
 by_cases h0:i<0
 ·rw[if_pos h0]
 ·rw[if_neg h0,List.getD_eq_getElem?_getD,List.getElem?_eq_none (by omega)];rfl
theorem any_step (q:Int→Bool) (l:List Int) (k:Nat) (h:k<l.length):(l.take (k+1)).any q=((l.take k).any q||q (l.getD k 0)):=by
 rw[List.take_succ_eq_append_getElem h,List.any_append];simp[h]
def hypB (l:List Int):Bool:=decide (atC l 0≠45)&&decide (atC l ((l.length:Int)-1)≠45) && !(decide (atC l 2=45)&&decide (atC l 3=45))
def staV (T:Tb) (c:Int):Bool:=decide (c≠46)&&(decide (staT T c=1)||decide (staT T c=4))
def valR (T:Tb) (l:List Int):Int :=
 if accE T l≠0 then accE T l else if l=[]then 10 else if isnC T l=false then 13 else if hypB l=false then 14
 else if catT T (l.getD 0 0)=2 then 15 else if l.all (staV T)=false then 16 else if(chkJ T l).2≠0 then(chkJ T l).2 else(chkC T l).2
theorem val_ok {T:Tb} {l:List Int} (h:valR T l=0):accE T l=0∧l≠[]∧isnC T l=true∧catT T (l.getD 0 0)≠2∧l.all (staV T)=true:=by
 unfold valR at h
 by_cases h1:accE T l=0
 ·rw[if_neg (by omega)]at h
  by_cases h2:l=[]
  ·rw[if_pos h2]at h;omega
  ·rw[if_neg h2]at h
   cases h3:isnC T l with
   | false=>rw[if_pos h3]at h;omega
   | true =>
    rw[if_neg (by rw[h3];simp)]at h
    cases h4:hypB l with
    | false=>rw[if_pos h4]at h;omega
    | true =>
     rw[if_neg (by rw[h4];simp)]at h
     by_cases h5:catT T (l.getD 0 0)=2
     ·rw[if_pos h5]at h;omega
     ·rw[if_neg h5]at h
      cases h6:l.all (staV T) with
      | false=>rw[if_pos h6]at h;omega
      | true=>exact⟨h1,h2,rfl,h5,rfl⟩
 ·rw[if_pos h1]at h;exact absurd h h1
def wantH (l:List Int):Bool :=
 if 4≤l.length∧l.getD 2 0=45∧l.getD 3 0=45 then false else decide (l.length=0)||(decide (l.getD 0 0≠45)&&decide (l.getD (l.length-1) 0≠45))
theorem atC_nat {l:List Int} {k:Nat} (h:¬k<l.length):atC l k = -1:=atC_out (fun hh=>h (by omega))
theorem hyp_want (l:List Int):hypB l=wantH l:=by
 unfold hypB wantH
 by_cases hn:l.length=0
 ·have e0:atC l 0 = -1:=atC_nat (k:=0) (by omega)
  have e1:atC l ((l.length:Int)-1) = -1:=atC_out (fun hh=>by omega)
  have e2:atC l 2 = -1:=atC_nat (k:=2) (by omega)
  rw[e0,e1,e2,if_neg (fun h=>by omega),hn];rfl
 ·have e0:atC l 0=l.getD 0 0:=atC_in (k:=0) (by omega)
  have e1:atC l ((l.length:Int)-1)=l.getD (l.length-1) 0:=by
   have:=atC_in (l:=l) (k:=l.length-1) (by omega)
   rw[←this];congr 1;omega
  rw[e0,e1,decide_eq_false hn,Bool.false_or]
  by_cases h4:4≤l.length
  ·have e2:atC l 2=l.getD 2 0:=atC_in (k:=2) (by omega)
   have e3:atC l 3=l.getD 3 0:=atC_in (k:=3) (by omega)
   rw[e2,e3]
   by_cases h:l.getD 2 0=45∧l.getD 3 0=45
   ·rw[if_pos ⟨h4,h.1,h.2⟩,decide_eq_true h.1,decide_eq_true h.2];simp
   ·rw[if_neg (fun hh=>h hh.2)]
    have:(decide (l.getD 2 0=45)&&decide (l.getD 3 0=45))=false:=by
     rw[Bool.and_eq_false_iff]
     by_cases h2:l.getD 2 0=45
     ·exact .inr (decide_eq_false (fun h3=>h ⟨h2,h3⟩))
     ·exact .inl (decide_eq_false h2)
    rw[this];simp
  ·have e3:atC l 3 = -1:=atC_nat (k:=3) (by omega)
   rw[e3,if_neg (fun hh=>h4 hh.1)];simp
def kndC (c:Int):Int:=if c=183 then 1 else if c=885 then 2 else if 1523≤c∧c≤1524 then 3 else if c=12539 then 4 else if arB c=true then 5 else if exB c=true then 6 else 0
theorem arB_iff {c:Int}:arB c=true↔1632≤c∧c≤1641:=by simp[arB]
theorem exB_iff {c:Int}:exB c=true↔1776≤c∧c≤1785:=by simp[exB]
theorem kndC_ar {c:Int}:kndC c=5↔arB c=true:=by
 unfold kndC
 constructor
 ·intro h
  split at h
  ·omega
  split at h
  ·omega
  split at h
  ·omega
  split at h
  ·omega
  split at h
  ·assumption
  split at h<;>omega
 ·intro h
  have h2:=arB_iff.1 h
  rw[if_neg (by omega),if_neg (by omega),if_neg (by omega),if_neg (by omega),if_pos h]
theorem kndC_ex {c:Int}:kndC c=6↔exB c=true:=by
 unfold kndC
 constructor
 ·intro h
  split at h
  ·omega
  split at h
  ·omega
  split at h
  ·omega
  split at h
  ·omega
  split at h
  ·omega
  split at h
  ·assumption
  ·omega
 ·intro h
  have h2:=exB_iff.1 h
  rw[if_neg (by omega),if_neg (by omega),if_neg (by omega),if_neg (by omega),if_neg (by rw[arB_iff];omega),if_pos h]
theorem scrT_out {T:Tb} (ha:ascB 0 T.scr=true):scrT T (-1)=0:=by
 unfold scrT
 rw[val_none ha (.inl (by omega))];rfl
theorem ctxB_knd {T : Tb} {l : List Int} {m : Nat} (ha : ascB 0 T.scr = true) (hm : m < l.length) :
  ctxB T l m=(if kndC (l.getD m 0)=1 then decide (atC l ((m:Int)-1)=108)&&decide (atC l ((m:Int)+1)=108)
   else if kndC (l.getD m 0)=2 then decide (scrT T (atC l ((m:Int)+1))=4)
   else if kndC (l.getD m 0)=3 then decide (scrT T (atC l ((m:Int)-1))=11)
   else if kndC (l.getD m 0)=4 then l.any (kanB T)
   else if kndC (l.getD m 0)=5 then !l.any exB
   else if kndC (l.getD m 0)=6 then !l.any arB
   else true):=by
 have hs:=scrT_out ha
 generalize hc:l.getD m 0=c
 unfold ctxB
 simp only[hc]
 rw[atC_prv,atC_nxt]
 obtain⟨k,hk⟩:∃k,kndC c=k:=⟨_,rfl⟩
 rw[hk]
 unfold kndC at hk
 by_cases h1:c=183
 ·rw[if_pos h1]at hk
  subst hk
  rw[if_pos h1,if_pos rfl]
 rw[if_neg h1]at hk ⊢
 by_cases h2:c=885
 ·rw[if_pos h2]at hk
  subst hk
  rw[if_pos h2,if_neg (by decide),if_pos rfl]
  unfold nxtC
  by_cases h:m+1<l.length
  ·rw[decide_eq_true h,Bool.true_and];simp[List.getD,h]
  ·have e:l.getD (m+1) (-1) = -1:=by rw[List.getD_eq_getElem?_getD,List.getElem?_eq_none (by omega)];rfl
   rw[decide_eq_false h,e,hs];rfl
 rw[if_neg h2]at hk ⊢
 by_cases h3:c=1523∨c=1524
 ·rw[if_pos (by omega)]at hk
  subst hk
  rw[if_pos h3,if_neg (by decide),if_neg (by decide),if_pos rfl]
  unfold prvC
  by_cases h:m=0
  ·rw[if_pos h,hs,decide_eq_false (show ¬0<m by omega)];rfl
  ·rw[if_neg h,decide_eq_true (show 0<m by omega),Bool.true_and]
   simp[List.getD,show m-1<l.length by omega]
 rw[if_neg (by omega)]at hk
 rw[if_neg h3]
 by_cases h4:c=12539
 ·rw[if_pos h4]at hk
  subst hk
  rw[if_pos h4,if_neg (by decide),if_neg (by decide),if_neg (by decide),if_pos rfl]
 rw[if_neg h4]at hk ⊢
 cases h5:arB c with
 | true=>rw[h5,if_pos rfl]at hk;subst hk;rfl
 | false=>cases h6:exB c with
  | true=>rw[h5,h6,if_neg (by simp),if_pos rfl]at hk;subst hk;rfl
  | false=>rw[h5,h6,if_neg (by simp),if_neg (by simp)]at hk;subst hk;rfl
end Go.Proofs.YtblcoicaeeiojaaGreatDoor
