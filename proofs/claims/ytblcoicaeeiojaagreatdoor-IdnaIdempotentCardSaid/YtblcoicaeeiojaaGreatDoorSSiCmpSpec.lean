/- compose: plain mathematics: pairs, normalization form C, and -/
import Derived.Test.YtblcoicaeeiojaaGreatDoorSSiPmMapSpec
import Derived.Test.YtblcoicaeeiojaaGreatDoorSSiPmBidFact
import Derived.Test.YtblcoicaeeiojaaGreatDoorSSiPmTabMem
set_option linter.unusedSimpArgs false
set_option linter.unusedVariables false
namespace Go.Proofs.YtblcoicaeeiojaaGreatDoor
def pairO (T:Tb) (a b:Int):Option Int :=
 if(compS a b).2=true then some (compS a b).1 else(T.dec.find? fun m=>decide (m.2=[a,b])&&compT T m.1).map (·.1)
def secB (T:Tb) (c:Int):Bool :=
 decide (kindS c=2)||(decide (kindS c=3)||T.dec.any fun m=>decide (m.2.length=2)&&(decide (m.2.getD 1 0=c)&&compT T m.1))
def unbl (T:Tb) (M:List Int) (c:Int):Prop:=∀m,M.getLast? = some m→clsT T m<clsT T c
instance (T:Tb) (M:List Int) (c:Int):Decidable (unbl T M c):=by
 unfold unbl
 cases h:M.getLast? with
 | none=>exact isTrue (fun m hm=>by cases hm)
 | some m =>
  by_cases hd:clsT T m<clsT T c
  ·exact isTrue (fun m' hm=>by injection hm with hm;subst hm;exact hd)
  ·exact isFalse (fun hf=>hd (hf m rfl))
def stepO (T:Tb) (s:Int) (M:List Int) (c:Int):Option Int:=if unbl T M c then pairO T s c else none
def goN (T:Tb):Int→List Int→List Int→List Int
 | s,M,[]=>s::M
 | s,M,c::r=>match stepO T s M c with
  | some p=>goN T p M r
  | none=>if clsT T c=0 then s::M++goN T c [] r else goN T s (M++[c]) r
def go0 (T:Tb):List Int→List Int→List Int
 | M,[]=>M
 | M,c::r=>if clsT T c=0 then M++goN T c [] r else go0 T (M++[c]) r
def nfcS (T:Tb) (d:List Int):List Int:=go0 T [] d
theorem goN_some {T:Tb} {s c p:Int} {M r:List Int} (h:stepO T s M c=some p):goN T s M (c::r)=goN T p M r:=by
 rw[goN,h]
theorem goN_start {T:Tb} {s c:Int} {M r:List Int} (h:stepO T s M c=none) (hc:clsT T c=0):goN T s M (c::r)=s::M++goN T c [] r:=by
 rw[goN,h];simp only;rw[if_pos hc]
theorem goN_mark {T:Tb} {s c:Int} {M r:List Int} (h:stepO T s M c=none) (hc:clsT T c≠0):goN T s M (c::r)=goN T s (M++[c]) r:=by
 rw[goN,h];simp only;rw[if_neg hc]
theorem stepO_pair {T:Tb} {s c p:Int} {M:List Int} (h:stepO T s M c=some p):unbl T M c∧pairO T s c=some p:=by
 unfold stepO at h
 split at h
 ·exact⟨by assumption,h⟩
 ·cases h
theorem stepO_no {T:Tb} {s c:Int} {M:List Int} (h:pairO T s c=none):stepO T s M c=none:=by
 unfold stepO;split
 ·exact h
 ·rfl
theorem stepO_yes {T:Tb} {s c p:Int} {M:List Int} (hu:unbl T M c) (h:pairO T s c=some p):stepO T s M c=some p:=by
 unfold stepO;rw[if_pos hu,h]
theorem cls_res {T:Tb} (h:checkT T=0) {c:Int} (hc:resB c=true):clsT T c=0:=by
 have h2:=(check_rules h).2.1
 have hs:spOk T.cls=true:=by
  unfold r2 spansT at h2
  simp only[List.all_cons,Bool.and_eq_true]at h2
  exact h2.1.2.1
 unfold clsT
 rw[val_res hs hc]
 rfl
theorem dec_find {T:Tb} (h:checkT T=0) {m:Mp} (hm:m∈T.dec):findM T.dec m.1=m.2:=by
 obtain⟨k,hk,e⟩:=List.mem_iff_getElem.1 hm
 have ha:=(r2_key (check_rules h).2.1).2.2.1
 have e2:T.dec.getD k mp0=m:=by simp[hk,e]
 have:=findM_at ha k hk
 rw[e2]at this
 exact this
theorem dec_from {T:Tb} (h:checkT T=0) {c:Int} (hf:findM T.dec c≠[]):decS c=[]∧resB c=false∧scaB c=true:=by
 have hr:resB c=false:=by
  cases hb:resB c with
  | false=>rfl
  | true=>exact absurd (dec_res h hb) hf
 have hn:¬(resB c=true):=by rw[hr];simp
 rw[resB_iff]at hn
 have hk:=has_of_find hf
 have ha:=ascI_mem (r2_key (check_rules h).2.1).2.2.1 hk
 refine⟨decS_nil.2 (by omega),hr,?_⟩
 unfold scaB
 simp
 omega
theorem comp_two {T : Tb} (h : checkT T = 0) {x : Int} (hx : compT T x = true) :
  ∃a b,findM T.dec x=[a,b]∧clsT T x=0∧clsT T a=0∧Fin1 T b∧(findM T.dec a=[]∨compT T a=true)∧(clsT T b=0∨clsT T (lastF T.dec a)≤clsT T b):=by
 have hl:(findM T.dec x).length=2:=by
  apply Classical.byContradiction
  intro hne
  rw[compT_not hne]at hx
  cases hx
 obtain⟨a,b,hf⟩:∃a b,findM T.dec x=[a,b]:=by
  cases hf:findM T.dec x with
  | nil=>rw[hf]at hl;cases hl
  | cons a r =>
   cases r with
   | nil=>rw[hf]at hl;cases hl
   | cons b r =>
    cases r with
    | nil=>exact⟨a,b,rfl⟩
    | cons c r=>rw[hf]at hl;simp at hl
 rw[compT_two (dec_dp h x) hf]at hx
 simp only[Bool.and_eq_true,decide_eq_true_eq,Bool.or_eq_true,Bool.not_eq_true']at hx
 obtain⟨_,c1,c2,hb,ha,hc⟩:=hx
 have hp:b∈findM T.dec x:=by rw[hf];simp
 have hb2:=dec_part h hp
 refine⟨a,b,hf,c1,c2,⟨hb2.1,findM_nil hb,hb2.2⟩,?_,hc⟩
 rcases ha with ha|ha
 ·exact .inl (findM_nil ha)
 ·exact .inr ha
theorem comp_ne {T:Tb} (h:checkT T=0) {x:Int} (hx:compT T x=true):findM T.dec x≠[]:=by
 obtain⟨a,b,hf,_⟩:=comp_two h hx
 rw[hf];simp
theorem pair_cases {T : Tb} (h : checkT T = 0) {a b p : Int} (hp : pairO T a b = some p) :
  (((kindS a=1∧kindS b=2)∨(kindS a=4∧kindS b=3))∧(kindS p=4∨kindS p=5)∧decS p=flatS a++[b])∨(findM T.dec p=[a,b]∧compT T p=true):=by
 unfold pairO at hp
 split at hp
 ·rename_i ho
  left
  injection hp with hp
  rcases compS_cases (a:=a) (b:=b) (x:=(compS a b).1) (o:=(compS a b).2) rfl with⟨_,h1,h2,h3⟩|⟨_,h1,h2,h3⟩|⟨h1,_⟩
  ·rw[hp]at h3
   have:=comp_lv h1 h2 h3
   exact⟨.inl ⟨h1,h2⟩,.inl this.1,this.2⟩
  ·rw[hp]at h3
   have:=comp_lvt h1 h2 h3
   exact⟨.inr ⟨h1,h2⟩,.inr this.1,this.2⟩
  ·rw[h1]at ho;cases ho
 ·right
  rw[Option.map_eq_some_iff]at hp
  obtain⟨m,hm,rfl⟩:=hp
  have h1:=List.find?_some hm
  have h2:=List.mem_of_find?_eq_some hm
  simp only[Bool.and_eq_true,decide_eq_true_eq]at h1
  exact⟨by rw[dec_find h h2,h1.1],h1.2⟩
theorem kind_syl {c:Int} (h:kindS c=4∨kindS c=5):44032≤c∧c≤55203:=by
 rcases h with h|h
 ·rw[kindS_4]at h;omega
 ·rw[kindS_5]at h;omega
theorem pair_exp {T : Tb} (h : checkT T = 0) {a b p : Int} (hp : pairO T a b = some p) (hb : Fin1 T b) :
  expT T p=expT T a++[b]∧clsT T p=0∧scaB p=true∧(findM T.dec p=[]∨compT T p=true):=by
 rcases pair_cases h hp with⟨hk,hs,hd⟩|⟨hf,hc⟩
 ·have hps:=kind_syl hs
  have hres:resB p=true:=resB_iff.2 (by omega)
  refine⟨?_,cls_res h hres,by unfold scaB;simp;omega,.inl (dec_res h hres)⟩
  have e1:expT T p=decS p:=by
   unfold expT
   rw[if_neg (by rw[hd];simp)]
  rw[e1,hd]
  congr 1
  unfold flatS expT
  by_cases ha:decS a=[]
  ·rw[if_pos ha,if_pos ha]
   have hra:resB a=true:=by
    rcases hk with⟨h1,_⟩|⟨h1,_⟩
    ·rw[kindS_1]at h1;exact resB_iff.2 (by omega)
    ·have:=kind_syl (.inl h1);exact resB_iff.2 (by omega)
   rw[ful_nil (dec_res h hra)]
  ·rw[if_neg ha,if_neg ha]
 ·have hne:=comp_ne h hc
  obtain⟨d1,_,d3⟩:=dec_from h hne
  obtain⟨a2,b2,hf2,c1,_⟩:=comp_two h hc
  refine⟨?_,c1,d3,.inr hc⟩
  rw[exp_rec h d1 hne,hf]
  rw[all_cons,all_cons,hb.exp]
  simp[flatT]
theorem pair_sec {T:Tb} (h:checkT T=0) {a b p:Int} (hp:pairO T a b=some p):secB T b=true:=by
 unfold secB
 rcases pair_cases h hp with⟨hk,_⟩|⟨hf,hc⟩
 ·rcases hk with⟨_,h2⟩|⟨_,h2⟩<;>simp[h2]
 ·have hm:=findM_mem (l:=T.dec) (c:=p) (by rw[hf];simp)
  rw[hf]at hm
  simp only[Bool.or_eq_true,List.any_eq_true]
  right;right
  exact⟨_,hm,by simp[hc]⟩
theorem pair_no {T:Tb} (h:checkT T=0) {a b:Int} (hb:secB T b=false):pairO T a b=none:=by
 cases hp:pairO T a b with
 | none=>rfl
 | some p=>rw[pair_sec h hp]at hb;cases hb
theorem forb_kind {c:Int} (h:forb c=false):kindS c=0:=by
 unfold forb at h
 simp only[Bool.or_eq_false_iff]at h
 have h1:¬(sylB c=true):=by rw[h.2.1];simp
 have h2:¬(jamB c=true):=by rw[h.2.2];simp
 rw[sylB_iff]at h1
 rw[jamB_iff]at h2
 exact kindS_0 (by omega) (by omega) (by omega) (by omega)
theorem dec_forb {T:Tb} (h:checkT T=0) {c x:Int} (hx:x∈findM T.dec c):forb x=false:=by
 have h6:=(check_rules h).2.2.2.2
 have hm:=findM_mem (ne_nil_of_mem' hx)
 unfold r6 at h6
 simp only[Bool.and_eq_true,List.all_eq_true]at h6
 have b:=h6.1 _ hm
 unfold short2 at b
 simp only[Bool.and_eq_true,List.all_eq_true]at b
 simpa using b.2 x hx
theorem check_r8 {T:Tb} (h:checkT T=0):r8 T=true:=by
 unfold checkT at h
 split at h
 ·omega
 split at h
 ·omega
 split at h
 ·omega
 split at h
 ·omega
 split at h
 ·omega
 split at h
 ·omega
 split at h
 ·omega
 split at h
 ·omega
 rename_i h8
 simpa using h8
theorem pair_comp {T:Tb} (h:checkT T=0) {x a b:Int} (hx:compT T x=true) (hf:findM T.dec x=[a,b]):pairO T a b=some x:=by
 have ha:kindS a=0:=forb_kind (dec_forb h (c:=x) (by rw[hf];simp))
 have hn:(compS a b).2=false:=by
  rw[compS_no (by rw[ha];omega) (by rw[ha];omega)]
 unfold pairO
 rw[if_neg (by rw[hn];simp)]
 have hm:=findM_mem (l:=T.dec) (c:=x) (by rw[hf];simp)
 rw[hf]at hm
 cases hq:T.dec.find? fun m=>decide (m.2=[a,b])&&compT T m.1 with
 | none =>
  have:=List.find?_eq_none.1 hq _ hm
  simp[hx]at this
 | some m =>
  have h1:=List.find?_some hq
  have h2:=List.mem_of_find?_eq_some hq
  simp only[Bool.and_eq_true,decide_eq_true_eq]at h1
  have h8:=check_r8 h
  unfold r8 cmpTos at h8
  rw[decide_eq_true_eq,List.Nodup,List.pairwise_map]at h8
  have e:m=(x,[a,b]):=by
   apply Classical.byContradiction
   intro hne
   have m1:m∈T.dec.filter fun m=>compT T m.1:=List.mem_filter.2 ⟨h2,h1.2⟩
   have m2:(x,[a,b])∈T.dec.filter fun m=>compT T m.1:=List.mem_filter.2 ⟨hm,hx⟩
   have key:∀(l:List Mp),l.Pairwise (fun u v=>u.2≠v.2)→m∈l→(x,[a,b])∈l→False:=by
    intro l hl i1 i2
    induction l with
    | nil=>cases i1
    | cons u r ih =>
     rw[List.pairwise_cons]at hl
     rcases List.mem_cons.1 i1 with j1|j1
     ·rcases List.mem_cons.1 i2 with j2|j2
      ·exact hne (j1.trans j2.symm)
      ·exact hl.1 _ j2 (by rw[←j1];exact h1.1)
     ·rcases List.mem_cons.1 i2 with j2|j2
      ·exact hl.1 _ j1 (by rw[←j2];exact h1.1.symm)
      ·exact ih hl.2 j1 j2
   exact key _ h8 m1 m2
  rw[e];rfl
theorem ord_pass (k:Int→Int) (X M:List Int) (c:Int) (h:∀m∈M,0<k m∧k m<k c):ordS k (X++c::M)=ordS k (X++M++[c]):=by
 induction M generalizing X with
 | nil=>simp
 | cons m r ih =>
  have hm:=h m (by simp)
  rw[ordS_swap k X r hm.1 hm.2]
  have:=ih (X++[m]) (fun y hy=>h y (by simp[hy]))
  simpa using this
theorem inOrd_prefix (k:Int→Int) (a b:List Int) (h:inOrd k (a++b)):inOrd k a:=by
 induction a with
 | nil=>trivial
 | cons x r ih =>
  cases r with
  | nil=>trivial
  | cons y s=>exact⟨h.1,ih h.2⟩
structure Mk (T:Tb) (E M:List Int):Prop where
 fin:∀m∈M,Fin1 T m
 pos:∀m∈M,0<clsT T m
 top:∀m∈M,∀e,E.getLast? = some e→clsT T m≤clsT T e
 asc:M.Pairwise fun a b=>clsT T a≤clsT T b
theorem Mk.nil (T:Tb) (E:List Int):Mk T E []:=⟨by simp,by simp,by simp,List.Pairwise.nil⟩
theorem Mk.below {T:Tb} {E M:List Int} (h:Mk T E M) {c:Int} (hu:unbl T M c):∀m∈M,clsT T m<clsT T c:=by
 intro m hm
 obtain⟨l,hl⟩:∃l,M.getLast? = some l:=by
  cases hg:M.getLast? with
  | none=>rw[List.getLast?_eq_none_iff]at hg;rw[hg]at hm;cases hm
  | some l=>exact⟨l,rfl⟩
 have h1:=hu l hl
 have h2:clsT T m≤clsT T l:=by
  obtain⟨N,rfl⟩:∃N,M=N++[l]:=by
   rw[List.getLast?_eq_some_iff]at hl;exact hl
  rcases List.mem_append.1 hm with hm|hm
  ·exact(List.pairwise_append.1 h.asc).2.2 m hm l (by simp)
  ·simp at hm;subst hm;exact Int.le_refl _
 omega
theorem Mk.comp {T:Tb} {E M:List Int} (h:Mk T E M) {c:Int} (hu:unbl T M c):Mk T (E++[c]) M :=
 ⟨h.fin,h.pos,fun m hm e he=>by simp at he;subst he;exact Int.le_of_lt (h.below hu m hm),h.asc⟩
theorem Mk.snoc {T:Tb} {E M:List Int} (h:Mk T E M) {c:Int} (hE:E≠[]) (hc:Fin1 T c) (hp:0<clsT T c) (ho:inOrd (clsT T) (E++[c])):Mk T (E++[c]) (M++[c]):=by
 obtain⟨N,e,rfl⟩:∃N e,E=N++[e]:=⟨E.dropLast,E.getLast hE,(List.dropLast_concat_getLast hE).symm⟩
 have hle:clsT T e≤clsT T c:=by
  have:inOrd (clsT T) (N++[e,c]):=by simpa using ho
  have:=((inOrd_snoc (clsT T) N c e).1 this).2
  omega
 have hall:∀m∈M,clsT T m≤clsT T c:=fun m hm=>by have:=h.top m hm e (by simp);omega
 refine⟨?_,?_,?_,?_⟩
 ·intro m hm
  rcases List.mem_append.1 hm with hm|hm
  ·exact h.fin m hm
  ·simp at hm;subst hm;exact hc
 ·intro m hm
  rcases List.mem_append.1 hm with hm|hm
  ·exact h.pos m hm
  ·simp at hm;subst hm;exact hp
 ·intro m hm e' he
  simp at he
  subst he
  rcases List.mem_append.1 hm with hm|hm
  ·exact hall m hm
  ·simp at hm;subst hm;exact Int.le_refl _
 ·rw[List.pairwise_append]
  exact⟨h.asc,List.pairwise_singleton _ _,fun a ha b hb=>by simp at hb;subst hb;exact hall a ha⟩
theorem inOrd_marks {T:Tb} {E M:List Int} (s:Int) (hs:clsT T s=0) (h:Mk T E M):inOrd (clsT T) (s::M):=by
 have key:∀(M:List Int),(M.Pairwise fun a b=>clsT T a≤clsT T b)→inOrd (clsT T) M:=by
  intro M hM
  induction M with
  | nil=>trivial
  | cons a r ih =>
   rw[List.pairwise_cons]at hM
   cases r with
   | nil=>trivial
   | cons b q=>exact⟨by have:=hM.1 b (by simp);omega,ih hM.2⟩
 cases hM:M with
 | nil=>trivial
 | cons a r =>
  refine⟨by omega,?_⟩
  have:=key M h.asc
  rwa[hM]at this
theorem inOrd_app0 (k:Int→Int) (a b:List Int) (ha:inOrd k a) (hb:inOrd k b) (h0:∀x,b.head? = some x→k x=0):inOrd k (a++b):=by
 induction a with
 | nil=>exact hb
 | cons x r ih =>
  cases r with
  | nil =>
   cases b with
   | nil=>trivial
   | cons y s =>
    have:=h0 y rfl
    exact⟨by omega,hb⟩
  | cons y s=>exact⟨ha.1,ih ha.2⟩
def CElt (T:Tb) (x:Int):Prop:=scaB x=true∧(findM T.dec x=[]∨compT T x=true)
structure GoOut (T:Tb) (D out:List Int):Prop where
 nfd:ordS (clsT T) (flatT T out)=D
 ord:inOrd (clsT T) out
 elt:∀x∈out,CElt T x
 len:out.length≤D.length
theorem goN_head (T:Tb) (s:Int) (M r:List Int) (h:checkT T=0) (hs:clsT T s=0) (hr:∀c∈r,Fin1 T c):∀x,(goN T s M r).head? = some x→clsT T x=0:=by
 induction r generalizing s M with
 | nil=>intro x hx;simp[goN]at hx;subst hx;exact hs
 | cons c r ih =>
  have hc:=hr c (by simp)
  have hr':∀c∈r,Fin1 T c:=fun y hy=>hr y (by simp[hy])
  cases hst:stepO T s M c with
  | some p =>
   rw[goN_some hst]
   exact ih p M (pair_exp h (stepO_pair hst).2 hc).2.1 hr'
  | none =>
   by_cases h0:clsT T c=0
   ·rw[goN_start hst h0]
    intro x hx
    simp at hx
    subst hx
    exact hs
   ·rw[goN_mark hst h0]
    exact ih s (M++[c]) hs hr'
theorem goN_out {T : Tb} (h : checkT T = 0) (r : List Int) (s : Int) (M E : List Int) (hs : clsT T s = 0) (he : CElt T s) (hE : E ≠ []) (hI : ordS (clsT T) (expT T s ++ M) = E) (hM : Mk T E M)
  (ho:inOrd (clsT T) (E++r)) (hr:∀c∈r,Fin1 T c) (hl:1+M.length≤E.length):GoOut T (E++r) (goN T s M r):=by
 induction r generalizing s M E with
 | nil =>
  refine⟨?_,inOrd_marks s hs hM,?_,by simp[goN];omega⟩
  ·rw[goN,all_cons,all_id hM.fin,List.append_nil];exact hI
  ·intro x hx
   rw[goN]at hx
   rcases List.mem_cons.1 hx with rfl|hx
   ·exact he
   ·have:=hM.fin x hx;exact⟨this.1,.inl this.2.1⟩
 | cons c r ih =>
  have hc:=hr c (by simp)
  have hr':∀c∈r,Fin1 T c:=fun y hy=>hr y (by simp[hy])
  have ho1:inOrd (clsT T) (E++[c]):=inOrd_prefix _ (E++[c]) r (by simpa using ho)
  have ho2:inOrd (clsT T) ((E++[c])++r):=by simpa using ho
  have hEc:E++[c]≠[]:=by simp
  have e2:E++c::r=(E++[c])++r:=by simp
  have hsn:ordS (clsT T) (expT T s++M++[c])=E++[c]:=by
   rw[←ordS_left,hI,ordS_id _ _ ho1]
  cases hst:stepO T s M c with
  | some p =>
   obtain⟨hu,hp⟩:=stepO_pair hst
   obtain⟨x1,x2,x3,x4⟩:=pair_exp h hp hc
   rw[goN_some hst,e2]
   refine ih p M (E++[c]) x2 ⟨x3,x4⟩ hEc ?_ (hM.comp hu) ho2 hr' (by simp;omega)
   rw[x1]
   have:=ord_pass (clsT T) (expT T s) M c (fun m hm=>⟨hM.pos m hm,hM.below hu m hm⟩)
   rw[←hsn,←this]
   simp
  | none =>
   by_cases h0:clsT T c=0
   ·rw[goN_start hst h0]
    have hq:=ih c [] [c] h0 ⟨hc.1,.inl hc.2.1⟩ (by simp) (by rw[hc.exp,List.append_nil];exact ordS_id _ _ trivial) (Mk.nil T _) (by
     have:∀(a b:List Int),inOrd (clsT T) (a++b)→inOrd (clsT T) b:=by
      intro a b hab
      induction a with
      | nil=>exact hab
      | cons x q ihq =>
       cases q with
       | nil =>
        cases b with
        | nil=>trivial
        | cons y z=>exact hab.2
       | cons y z=>exact ihq hab.2
     exact this E (c::r) ho) hr' (by simp)
    refine⟨?_,?_,?_,?_⟩
    ·rw[all_append,all_cons,all_id hM.fin,←ordS_parts,hI,hq.nfd]
     exact ordS_id _ _ (by simpa using ho)
    ·exact inOrd_app0 _ _ _ (inOrd_marks s hs hM) hq.ord (goN_head T c [] r h h0 hr')
    ·intro x hx
     rcases List.mem_append.1 hx with hx|hx
     ·rcases List.mem_cons.1 hx with rfl|hx
      ·exact he
      ·have:=hM.fin x hx;exact⟨this.1,.inl this.2.1⟩
     ·exact hq.elt x hx
    ·have:=hq.len
     simp at this ⊢
     omega
   ·have hpos:0<clsT T c:=by have:=cls_pos h c;omega
    rw[goN_mark hst h0,e2]
    refine ih s (M++[c]) (E++[c]) hs he hEc ?_ (hM.snoc hE hc hpos ho1) ho2 hr' (by simp;omega)
    rw[←List.append_assoc];exact hsn
theorem inOrd_suffix (k:Int→Int) (a b:List Int) (h:inOrd k (a++b)):inOrd k b:=by
 induction a with
 | nil=>exact h
 | cons x q ih =>
  cases q with
  | nil =>
   cases b with
   | nil=>trivial
   | cons y z=>exact h.2
  | cons y z=>exact ih h.2
theorem go0_out {T:Tb} (h:checkT T=0) (r M:List Int) (hM:∀m∈M,Fin1 T m) (ho:inOrd (clsT T) (M++r)) (hr:∀c∈r,Fin1 T c):GoOut T (M++r) (go0 T M r):=by
 induction r generalizing M with
 | nil =>
  rw[List.append_nil]at ho
  refine⟨?_,ho,?_,by simp[go0]⟩
  ·rw[go0,all_id hM,List.append_nil];exact ordS_id _ _ ho
  ·intro x hx
   rw[go0]at hx
   have:=hM x hx;exact⟨this.1,.inl this.2.1⟩
 | cons c r ih =>
  have hc:=hr c (by simp)
  have hr':∀c∈r,Fin1 T c:=fun y hy=>hr y (by simp[hy])
  rw[go0]
  by_cases h0:clsT T c=0
  ·rw[if_pos h0]
   have hq:=goN_out h r c [] [c] h0 ⟨hc.1,.inl hc.2.1⟩ (by simp) (by rw[hc.exp,List.append_nil];exact ordS_id _ _ trivial) (Mk.nil T _) (by simpa using inOrd_suffix _ M (c::r) ho) hr' (by simp)
   refine⟨?_,?_,?_,?_⟩
   ·rw[all_append,all_id hM,←ordS_parts,hq.nfd,ordS_id _ M (inOrd_prefix _ M (c::r) ho)]
    exact ordS_id _ _ (by simpa using ho)
   ·exact inOrd_app0 _ _ _ (inOrd_prefix _ M (c::r) ho) hq.ord (goN_head T c [] r h h0 hr')
   ·intro x hx
    rcases List.mem_append.1 hx with hx|hx
    ·have:=hM x hx;exact⟨this.1,.inl this.2.1⟩
    ·exact hq.elt x hx
   ·have:=hq.len
    simp at this ⊢
    omega
  ·rw[if_neg h0]
   have:=ih (M++[c]) (fun m hm=>by
    rcases List.mem_append.1 hm with hm|hm
    ·exact hM m hm
    ·simp at hm;subst hm;exact hc) (by simpa using ho) hr'
   simpa using this
theorem nfcS_out {T:Tb} (h:checkT T=0) (d:List Int) (ho:inOrd (clsT T) d) (hr:∀c∈d,Fin1 T c):GoOut T d (nfcS T d):=by
 have:=go0_out h d [] (by simp) (by simpa using ho) hr
 simpa[nfcS] using this
end Go.Proofs.YtblcoicaeeiojaaGreatDoor
