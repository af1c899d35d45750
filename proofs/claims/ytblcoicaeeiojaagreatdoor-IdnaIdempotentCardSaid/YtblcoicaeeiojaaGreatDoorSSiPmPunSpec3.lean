/- puny: plain mathematics: whole strings: the basic code point -/
import Derived.Test.YtblcoicaeeiojaaGreatDoorSSiPmSplSpec
import Derived.Laws.BytesArg
set_option linter.unusedSimpArgs false
set_option linter.unusedVariables false
namespace Go.Proofs.YtblcoicaeeiojaaGreatDoor
def basB (c:Int):Bool:=decide (c<128)
def basF (l:List Int):List Bool:=l.map basB
def basS (l:List Int):List Int:=placed l (basF l)
def frontS (P:List Int):List Int:=P++(if P=[]then []else [45])
def encP (l:List Int):List Int × Int :=
 if 256<l.length then([],7)else if l.all scpB=false then([],3)
 else(frontS (basS l)++pencL l (l.length-(basS l).length) (basF l) 128 0 72 true,0)
def hyK (s:List Int):Nat→Nat
 | 0=>0
 | k+1=>if 1≤k∧s.getD k 0=45 then k else hyK s k
def hyS (s:List Int):Nat:=hyK s s.length
def decP (s:List Int):List Int × Int :=
 if 2048<s.length then([],7)else if((s.take (hyS s)).any fun c=>decide (127<c))=true then([],12)
 else pdecL s.length (s.take (hyS s)) 128 0 72 true (s.drop (if hyS s=0 then 0 else hyS s+1))
theorem hyK_none (s:List Int):∀k,(∀i,1≤i→i<k→s.getD i 0≠45)→hyK s k=0
 | 0,_=>rfl
 | k+1,h=>by
  rw[hyK,if_neg (fun e=>h k e.1 (by omega) e.2)]
  exact hyK_none s k (fun i h1 h2=>h i h1 (by omega))
theorem hyK_at (s:List Int) (p:Nat) (hp:1≤p) (hs:s.getD p 0=45):∀k,p<k→(∀i,p<i→i<k→s.getD i 0≠45)→hyK s k=p
 | 0,h,_=>by omega
 | k+1,h,hh=>by
  rw[hyK]
  by_cases e:k=p
  ·subst e;rw[if_pos ⟨hp,hs⟩]
  ·rw[if_neg (fun e2=>hh k (by omega) (by omega) e2.2)]
   exact hyK_at s p hp hs k (by omega) (fun i h1 h2=>hh i h1 (by omega))
theorem hyK_bd (s:List Int):∀k,hyK s k=0∨(1≤hyK s k∧hyK s k<k∧s.getD (hyK s k) 0=45)
 | 0 => .inl rfl
 | k+1=>by
  rw[hyK]
  split
  ·rename_i h;exact .inr ⟨h.1,by omega,h.2⟩
  ·rcases hyK_bd s k with h|h
   ·exact .inl h
   ·exact .inr ⟨h.1,by omega,h.2.2⟩
theorem pnumS_len (b:Nat):∀(k j v:Nat),v<10^k→(pnumS b j v).length≤k+1
 | 0,j,v,h=>by
  have:=thr_bd b j
  rw[pnumS,dif_pos (by omega)];simp
 | k+1,j,v,h=>by
  have ht:=thr_bd b j
  rw[pnumS]
  split
  ·simp
  ·rename_i hv
   have h1:(v-thr b j) / (36-thr b j)≤v / 10 :=
    Nat.le_trans (Nat.div_le_div_left (by omega) (by omega)) (Nat.div_le_div_right (by omega))
   have h2:v / 10<10^k:=by
    rw[Nat.div_lt_iff_lt_mul (by omega)]
    rw[Nat.pow_succ]at h
    exact h
   have:=pnumS_len b k (j+1) ((v-thr b j) / (36-thr b j)) (by omega)
   simp;omega
theorem pencL_dig (l:List Int):∀(f:Nat) (F:List Bool) (n:Int) (i b:Nat) (first:Bool),∀c∈pencL l f F n i b first,(97≤c∧c≤122)∨(48≤c∧c≤57)
 | 0,F,n,i,b,first,c,h=>by rw[pencL]at h;cases h
 | f+1,F,n,i,b,first,c,h=>by
  rw[pencL]at h
  cases hk:leastK l F l.length with
  | none=>rw[hk]at h;cases h
  | some a =>
   rw[hk]at h
   simp only at h
   rcases List.mem_append.1 h with h|h
   ·obtain⟨d,hd,rfl⟩:=List.mem_map.1 h
    exact pdigB_range (cmpl_lt b _ 0 (cmpl_pnumS _ _ _) d hd)
   ·exact pencL_dig l f _ _ _ _ _ c h
theorem scp_bd {c:Int} (h:scpB c=true):0≤c∧c≤1114111:=by
 unfold scpB at h
 simp only[Bool.and_eq_true,decide_eq_true_eq]at h
 exact⟨h.1.1,h.1.2⟩
theorem stepV_bd {l:List Int} (hs:∀c∈l,scpB c=true) (hlen:l.length≤256) {F:List Bool} {n:Int} {i a:Nat} (hF:F.length=l.length) (hn:0≤n) (hP:(placed l F).length≤256) (ha:a<l.length):stepV l F n i a≤286326783:=by
 have hj:=pcs_le l F hF ha
 have hsc2:=scp_bd (hs (l.getD a 0) (by simp[ha]))
 unfold stepV
 have h1:(l.getD a 0-n)*((placed l F).length+1:Nat)≤1114111*257:=by
  have h2:((placed l F).length+1:Nat)≤(257:Int):=by omega
  calc (l.getD a 0-n)*((placed l F).length+1:Nat)≤1114111*((placed l F).length+1:Nat):=Int.mul_le_mul_of_nonneg_right (by omega) (by omega)
   _≤1114111*257:=Int.mul_le_mul_of_nonneg_left h2 (by omega)
 omega
theorem placed_len:∀(l:List Int) (F:List Bool),(placed l F).length≤l.length
 | [],F=>by cases F<;>simp[placed]
 | c::l,[]=>by simp[placed]
 | c::l,b::F=>by rw[placed];have:=placed_len l F;split<;>simp<;>omega
theorem pencL_len (l:List Int) (hs:∀c∈l,scpB c=true) (hlen:l.length≤256):∀(f:Nat) (F:List Bool) (n:Int) (i b:Nat) (first:Bool),F.length=l.length→0≤n→(pencL l f F n i b first).length≤10*f
 | 0,F,n,i,b,first,hF,hn=>by rw[pencL];simp
 | f+1,F,n,i,b,first,hF,hn=>by
  rw[pencL]
  cases hk:leastK l F l.length with
  | none=>simp
  | some a =>
   have hL:=leastK_some l F _ a hk
   have hv:=stepV_bd hs hlen hF hn (Nat.le_trans (placed_len l F) hlen) hL.lt (i:=i)
   have h1:=pnumS_len b 9 0 (stepV l F n i a) (by omega)
   have ih:=pencL_len l hs hlen f (F.set a true) (l.getD a 0) (pcs l F a+1) (adaptN (stepV l F n i a) ((placed l F).length+1) first) false (by simpa using hF) (scp_bd (hs _ (by simp[hL.lt]))).1
   rw[List.length_append,List.length_map]
   omega
theorem basF_at (l:List Int) (a:Nat) (h:a<l.length):(basF l).getD a true=basB (l.getD a 0):=by
 unfold basF;simp[List.getD,h]
theorem bas_ahead (l:List Int):Ahead l (basF l) 128 0:=by
 intro a ha hf
 rw[basF_at l a ha]at hf
 unfold basB at hf
 rw[decide_eq_false_iff_not]at hf
 by_cases e:(128:Int)=l.getD a 0
 ·exact .inr ⟨e,Nat.zero_le _⟩
 ·exact .inl (by omega)
theorem placed_mem:∀(l:List Int) (F:List Bool) (c:Int),c∈placed l F→c∈l
 | [],F,c,h=>by cases F<;>simp[placed]at h
 | x::l,[],c,h=>by simp[placed]at h
 | x::l,b::F,c,h=>by
  rw[placed]at h
  split at h
  ·rcases List.mem_cons.1 h with rfl|h
   ·simp
   ·exact List.mem_cons_of_mem _ (placed_mem l F c h)
  ·exact List.mem_cons_of_mem _ (placed_mem l F c h)
theorem basS_lt:∀(l:List Int),∀c∈basS l,c<128
 | [],c,h=>by simp[basS,basF,placed]at h
 | x::l,c,h=>by
  have ih:=basS_lt l c
  unfold basS basF at h ih
  rw[List.map_cons,placed]at h
  split at h
  ·rename_i hb
   rcases List.mem_cons.1 h with rfl|h
   ·unfold basB at hb;exact of_decide_eq_true hb
   ·exact ih h
  ·exact ih h
theorem back_ok (l:List Int) (hs:l.all scpB=true) (hlen:l.length≤186):decP (encP l).1=(l,0)∧(encP l).2=0∧(encP l).1.length≤2048:=by
 have hs2:∀c∈l,scpB c=true:=List.all_eq_true.1 hs
 obtain⟨P,hP⟩:∃P,basS l=P:=⟨_,rfl⟩
 obtain⟨R,hR⟩:∃R,pencL l (l.length-P.length) (basF l) 128 0 72 true=R:=⟨_,rfl⟩
 have e:encP l=(frontS P++R,0):=by
  unfold encP
  rw[if_neg (by omega),if_neg (by rw[hs];simp),hP,hR]
 have hpl:P.length≤l.length:=by rw[←hP];exact placed_len _ _
 have hFl:(basF l).length=l.length:=by unfold basF;simp
 have hd:∀c∈R,c≠45:=fun c hc=>by rw[←hR]at hc;have:=pencL_dig l _ _ _ _ _ _ c hc;omega
 have hRl:R.length≤10*(l.length-P.length):=by rw[←hR];exact pencL_len l hs2 (by omega) _ _ _ _ _ _ hFl (by omega)
 have hfl:(frontS P).length≤P.length+1:=by unfold frontS;split<;>simp
 have hlt:(frontS P++R).length≤2048:=by rw[List.length_append];omega
 have hde:∀g,R.length≤g→pdecL g P 128 0 72 true R=(l,0):=by
  intro g hg
  have:=pdec_enc l hs2 (by omega) (l.length-P.length) (basF l) 128 0 72 true g hFl (bas_ahead l) (by omega) (Nat.zero_le _) (by unfold basS at hP;rw[hP];omega) (by rw[hR];exact hg)
  rw[hR]at this
  unfold basS at hP
  rwa[hP]at this
 rw[e]
 refine⟨?_,rfl,hlt⟩
 have hPb:∀c∈P,c<128:=by rw[←hP];exact basS_lt l
 by_cases h0:P=[]
 ·subst h0
  have hf:frontS []=[]:=rfl
  have hh:hyS R=0:=hyK_none R _ (fun i h1 h2=>hd _ (by simp[h2]))
  rw[hf,List.nil_append]
  unfold decP
  rw[if_neg (by rw[hf]at hlt;simpa using hlt),hh,if_neg (by simp),if_pos rfl,List.take_zero,List.drop_zero]
  exact hde _ (Nat.le_refl _)
 ·have hf:frontS P=P++[45]:=by unfold frontS;rw[if_neg h0]
  have hp1:1≤P.length:=List.length_pos_iff.2 h0
  have hh:hyS (P++[45]++R)=P.length:=by
   unfold hyS
   refine hyK_at _ P.length hp1 (by simp[List.getD]) _ (by simp) (fun i h1 h2=>?_)
   have h3:i-(P.length+1)<R.length:=by simp at h2;omega
   have h4:(P++[45]++R).getD i 0=R.getD (i-(P.length+1)) 0:=by
    rw[List.getD_eq_getElem?_getD,List.getD_eq_getElem?_getD,List.getElem?_append_right (by simp;omega)]
    simp
   rw[h4]
   exact hd _ (by simp[h3])
  rw[hf]at hlt ⊢
  have ht:(P++[45]++R).take P.length=P:=by simp
  have hdr:(P++[45]++R).drop (P.length+1)=R:=by
   rw[List.drop_append];simp
  unfold decP
  rw[if_neg (by simp only;omega),hh,ht,if_neg (by
   rw[Bool.not_eq_true,List.any_eq_false]
   intro c hc
   have:=hPb c hc
   simp;omega),if_neg (by omega),hdr]
  exact hde _ (by simp only[List.length_append];omega)
inductive CaseEq:List Int→List Int→Prop
 | nil:CaseEq [] []
 | cons {c d:Int} {s t:List Int} (h:digV c=digV d) (r:CaseEq s t):CaseEq (c::s) (d::t)
def lowC (c:Int):Int:=if 65≤c∧c≤90 then c+32 else c
def lowS (s:List Int):List Int:=s.map lowC
def xnS:List Int:=[120,110,45,45]
def isX (s:List Int):Bool:=decide (4≤s.length)&&(lowS (s.take 4)==xnS)
def ascQ (l:List Int):Bool:=l.all fun c=>decide (0≤c)&&decide (c≤127)
def longE (s:List Int):List Int × Int:=if 63<s.length then([],11) else(s,0)
def labS (l:List Int):List Int × Int :=
 if l=[] then([],10)else if ascQ l=true then longE l else if(encP l).2≠0 then([],(encP l).2)else longE (xnS++(encP l).1)
def ptsX (s:List Int) (y:List Int × Int):List Int × Int :=
 if y.2≠0 then([],y.2)else if ascQ y.1=true∨(labS y.1).2≠0∨(labS y.1).1≠lowS s then([],12) else(y.1,0)
def ptsS (s:List Int):List Int × Int :=
 if s=[] then([],10)else if(s.any fun c=>decide (127<c))=true then([],12)else if 63<s.length then([],11)
 else if isX s=false then(s,0)else ptsX s (decP (lowS (s.drop 4)))
theorem lowC_no {c:Int} (h:¬(65≤c∧c≤90)):lowC c=c:=if_neg h
theorem lowS_len (s:List Int):(lowS s).length=s.length:=by unfold lowS;simp
theorem lowS_no {s:List Int} (h:∀c∈s,¬(65≤c∧c≤90)):lowS s=s:=by
 unfold lowS
 induction s with
 | nil=>rfl
 | cons c r ih=>rw[List.map_cons,lowC_no (h c (by simp)),ih (fun d hd=>h d (by simp[hd]))]
theorem basS_mem {l:List Int} {c:Int} (h:c∈basS l):c∈l:=placed_mem l _ c h
theorem encP_low {l:List Int} (hs:l.all scpB=true) (hl:l.length≤256) (hc:∀c∈l,¬(65≤c∧c≤90)):∀c∈(encP l).1,¬(65≤c∧c≤90)∧c≤127:=by
 intro c h
 unfold encP at h
 rw[if_neg (by omega),if_neg (by rw[hs];simp)]at h
 rcases List.mem_append.1 h with h|h
 ·unfold frontS at h
  rcases List.mem_append.1 h with h|h
  ·exact⟨hc c (basS_mem h),by have:=basS_lt l c h;omega⟩
  ·split at h
   ·cases h
   ·rw[List.mem_singleton]at h;omega
 ·have:=pencL_dig l _ _ _ _ _ _ c h
  omega
theorem pdecL_out:∀(f:Nat) (P:List Int) (n:Int) (i b:Nat) (first:Bool) (s out:List Int) (e:Int),pdecL f P n i b first s=(out,e)→(e=0∧out.length≤P.length+s.length)∨(out=[]∧(e=12∨e=8))
 | f,P,n,i,b,first,[],out,e,h=>by
  have e1:P=out∧0=e:=by
   cases f<;>(rw[pdecL]at h;injection h with h1 h2;exact⟨h1,h2⟩)
  exact .inl ⟨e1.2.symm,by rw[e1.1];simp⟩
 | 0,P,n,i,b,first,c::s,out,e,h=>by rw[pdecL]at h;injection h with h1 h2;exact .inr ⟨h1.symm,.inl h2.symm⟩
 | f+1,P,n,i,b,first,c::s,out,e,h=>by
  rw[pdecL]at h
  cases ht:takeD b 0 (c::s) with
  | none=>rw[ht]at h;simp only at h;injection h with h1 h2;exact .inr ⟨h1.symm,.inl h2.symm⟩
  | some X =>
   obtain⟨D,r⟩:=X
   rw[ht]at h
   simp only at h
   obtain⟨_,_,A,hA,hAne⟩:=takeD_some b (c::s) 0 D r ht
   split at h
   ·injection h with h1 h2;exact .inr ⟨h1.symm,.inr h2.symm⟩
   ·split at h
    ·injection h with h1 h2;exact .inr ⟨h1.symm,.inl h2.symm⟩
    ·obtain⟨⟨m,j⟩,hmj⟩:∃y,stepD P n i (pvalS b 0 D)=y:=⟨_,rfl⟩
     rw[hmj]at h
     have hj:j≤P.length:=by
      have:j=(pvalS b 0 D+i)%(P.length+1):=by have:=congrArg Prod.snd hmj;exact this.symm
      have:=Nat.mod_lt (pvalS b 0 D+i) (show P.length+1>0 by omega)
      omega
     rcases pdecL_out f (putD P m j) m (j+1) _ false r out e h with⟨h1,h2⟩|h1
     ·refine .inl ⟨h1,?_⟩
      have hlp:(putD P m j).length=P.length+1:=by unfold putD;simp;omega
      have hl2:(c::s).length=A.length+r.length:=by rw[hA];simp
      have:0<A.length:=List.length_pos_iff.2 hAne
      omega
     ·exact .inr h1
theorem decP_out {L out:List Int} {e:Int} (h:decP L=(out,e)):out.length≤2048∧((e=0∧L.length≤2048)∨(out=[]∧(e=12∨e=8∨(e=7∧2048<L.length)))):=by
 unfold decP at h
 split at h
 ·rename_i h0
  injection h with h1 h2
  exact⟨by rw[←h1];simp,.inr ⟨h1.symm,.inr (.inr ⟨h2.symm,h0⟩)⟩⟩
 ·split at h
  ·injection h with h1 h2
   exact⟨by rw[←h1];simp,.inr ⟨h1.symm,.inl h2.symm⟩⟩
  ·rename_i h0 _
   rcases pdecL_out _ _ _ _ _ _ _ _ _ h with⟨h1,h2⟩|⟨h1,h2⟩
   ·refine⟨?_,.inl ⟨h1,by omega⟩⟩
    have:=hyK_bd L L.length
    have e1:(L.take (hyS L)).length≤hyS L:=by simp;omega
    have e2:(L.drop (if hyS L=0 then 0 else hyS L+1)).length≤L.length-hyS L:=by simp;split<;>omega
    have e3:hyS L≤L.length:=by unfold hyS;omega
    omega
   ·exact⟨by rw[h1];simp,.inr ⟨h1,by rcases h2 with h2|h2;exact .inl h2;exact .inr (.inl h2)⟩⟩
def p7:Nat→Int
 | 0=>1
 | k+1=>128*p7 k
def nums (s:ByteArray):List Int:=s.data.toList.map fun b=>(b.toNat:Int)
theorem nums_length (s:ByteArray):(nums s).length=s.size:=by simp[nums]
theorem nums_bytes (s:ByteArray):∀x∈nums s,0≤x∧x<256:=by
 intro x hx
 obtain⟨b,_,rfl⟩:=List.mem_map.1 hx
 have:=b.toNat_lt
 omega
theorem nums_of (l:List Int) (h:∀x∈l,0≤x∧x<256):nums (strOfNums l)=l:=by
 induction l with
 | nil=>rfl
 | cons x r ih =>
  have hx:=h x (by simp)
  have hr:=ih fun y hy=>h y (by simp[hy])
  simp only[nums,strOfNums,List.map_cons]at hr ⊢
  rw[hr]
  congr 1
  simp only[UInt8.toNat_ofNat']
  omega
theorem pnums_drop (s:ByteArray) (j:Nat) (h:j<s.size):(nums s).drop j=(s[j].toNat:Int)::(nums s).drop (j+1):=by
 have hl:j<(nums s).length:=by rw[nums_length];exact h
 rw[List.drop_eq_getElem_cons hl]
 congr 1
 simp[nums]
 rfl
theorem pnums_getD (s:ByteArray) (j:Nat) (h:j<s.size):(nums s).getD j 0=(s[j].toNat:Int):=by
 have hl:j<(nums s).length:=by rw[nums_length];exact h
 rw[List.getD_eq_getElem?_getD,List.getElem?_eq_getElem hl,Option.getD_some]
 simp[nums]
 rfl
def sizD (b:Nat):Nat→List Int→Option Nat
 | _,[]=>none
 | j,c::r=>match digV c with
  | none=>none
  | some d=>if d<thr b j then some (j+1)else sizD b (j+1) r
theorem sizD_take (b:Nat):∀(s:List Int) (j:Nat),sizD b j s=match takeD b j s with|none=>none|some (D,_)=>some (j+D.length)
 | [],j=>rfl
 | c::r,j=>by
  rw[sizD,takeD]
  cases digV c with
  | none=>rfl
  | some d =>
   simp only
   split
   ·rfl
   ·rw[sizD_take b r (j+1)]
    cases takeD b (j+1) r with
    | none=>rfl
    | some X=>obtain⟨D,q⟩:=X;simp;omega
theorem takeD_parts (b : Nat) : ∀ (s : List Int) (j : Nat) (D : List Nat) (r : List Int), takeD b j s = some (D, r) →
  1≤D.length∧D.length≤s.length∧r=s.drop D.length∧∀k,k<D.length→digV (s.getD k 0)=some (D.getD k 0)
 | [],j,D,r,h=>by cases h
 | c::s,j,D,r,h=>by
  rw[takeD]at h
  cases hd:digV c with
  | none=>rw[hd]at h;cases h
  | some d =>
   rw[hd]at h
   simp only at h
   split at h
   ·injection h with h
    injection h with h1 h2
    subst h1;subst h2
    refine⟨by simp,by simp,by simp,fun k hk=>?_⟩
    have:k=0:=by simp at hk;exact hk
    subst this
    simpa using hd
   ·cases ht:takeD b (j+1) s with
    | none=>rw[ht]at h;cases h
    | some X =>
     obtain⟨D',q⟩:=X
     rw[ht]at h
     injection h with h
     injection h with h1 h2
     subst h1;subst h2
     obtain⟨i1,i2,i3,i4⟩:=takeD_parts b s (j+1) D' q ht
     refine⟨by simp,by simpa using i2,by simpa using i3,fun k hk=>?_⟩
     cases k with
     | zero=>simpa using hd
     | succ k=>simpa using i4 k (by simpa using hk)
theorem pvalS_step (b:Nat) (D:List Nat) (k:Nat) (h:k<D.length):pvalS b k (D.drop k)=D.getD k 0+(36-thr b k)*pvalS b (k+1) (D.drop (k+1)):=by
 rw[List.drop_eq_getElem_cons h,pvalS]
 simp[List.getD,h]
def rdN (b:Nat) (L:List Int):Nat × Nat × Int:=match takeD b 0 L with
 | none=>(0,0,12)
 | some (D,_)=>if 2147483647<pvalS b 0 D then(0,0,8) else(pvalS b 0 D,D.length,0)
structure NumSt (b:Nat) (D:List Nat) (k:Nat) (S W:Nat):Prop where
 sum:S+W*pvalS b k (D.drop k)=pvalS b 0 D
 pos:1≤W
theorem NumSt.start (b:Nat) (D:List Nat):NumSt b D 0 0 1:=⟨by simp,by omega⟩
theorem NumSt.step {b:Nat} {D:List Nat} {k S W:Nat} (h:NumSt b D k S W) (hk:k<D.length):NumSt b D (k+1) (S+D.getD k 0*W) (W*(36-thr b k)) where
 sum:=by
  rw[←h.sum,pvalS_step b D k hk,Nat.mul_add,Nat.mul_assoc,Nat.mul_comm (D.getD k 0) W];omega
 pos:=by
  have h1:=h.pos
  have h2:=(thr_bd b k).2
  exact Nat.mul_pos h1 (by omega)
theorem NumSt.done {b:Nat} {D:List Nat} {S W:Nat} (h:NumSt b D D.length S W):S=pvalS b 0 D:=by
 have:=h.sum
 rw[List.drop_of_length_le (Nat.le_refl _)]at this
 simpa[pvalS] using this
theorem NumSt.le {b:Nat} {D:List Nat} {k S W:Nat} (h:NumSt b D k S W) (hk:k<D.length):S+D.getD k 0*W≤pvalS b 0 D:=by
 have:=(h.step hk).sum
 omega
structure KeptP (S W Sk Wk:Nat):Prop where
 sum:Sk=S
 w:Wk=min W 2147483648
 small:S≤2147483647
theorem KeptP.over {S W Sk Wk d:Nat} (h:KeptP S W Sk Wk) (hW:1≤W) (hd:(2147483647-Sk) / Wk<d):2147483647<S+d*W:=by
 obtain⟨h1,h2,h3⟩:=h
 subst h1
 have hk:1≤Wk:=by omega
 have h4:2147483647-Sk<d*Wk:=(Nat.div_lt_iff_lt_mul hk).1 hd
 have h5:d*Wk≤d*W:=Nat.mul_le_mul_left d (by omega)
 omega
theorem KeptP.next {S W Sk Wk d f:Nat} (h:KeptP S W Sk Wk) (hW:1≤W) (hf:1≤f) (hf2:f≤36) (hd:¬(2147483647-Sk) / Wk<d):KeptP (S+d*W) (W*f) (Sk+d*Wk) (if 2147483647 / f<Wk then 2147483648 else Wk*f)∧Sk+d*Wk≤2147483647:=by
 obtain⟨h1,h2,h3⟩:=h
 subst h1
 have hk:1≤Wk:=by omega
 have h4:d*Wk≤2147483647-Sk:=by
  have:d≤(2147483647-Sk) / Wk:=by omega
  exact(Nat.le_div_iff_mul_le hk).1 this
 have h5:d*W=d*Wk:=by
  rcases Nat.lt_or_ge W 2147483648 with hw|hw
  ·rw[h2,Nat.min_eq_left (by omega)]
  ·have hd0:d=0:=by
    rcases Nat.eq_zero_or_pos d with e|e
    ·exact e
    ·have:1*Wk≤d*Wk:=Nat.mul_le_mul_right Wk e
     omega
   subst hd0;simp
 refine⟨⟨by rw[h5],?_,by rw[h5];omega⟩,by omega⟩
 split
 ·rename_i hlt
  have:2147483647<Wk*f:=(Nat.div_lt_iff_lt_mul hf).1 hlt
  have h6:Wk*f≤W*f:=Nat.mul_le_mul_right f (by omega)
  omega
 ·rename_i hlt
  have hle:Wk*f≤2147483647:=(Nat.le_div_iff_mul_le hf).1 (by omega)
  have hWs:W<2147483648:=by
   have:Wk*1≤Wk*f:=Nat.mul_le_mul_left Wk hf
   omega
  have:Wk=W:=by omega
  rw[this]at hle ⊢
  omega
structure KeptR (S W Sk Wk:Nat):Prop where
 sum:Sk=min S 2147483648
 w:Wk=min W 2147483648
theorem KeptR.next {S W Sk Wk d f:Nat} (h:KeptR S W Sk Wk) (hW:1≤W) (hf:1≤f) (hd:d<36):KeptR (S+d*W) (W*f) (min 2147483648 (Sk+d*Wk)) (min 2147483648 (Wk*f)):=by
 obtain⟨h1,h2⟩:=h
 constructor
 ·rcases Nat.lt_or_ge W 2147483648 with hw|hw
  ·have:Wk=W:=by omega
   rw[this]
   omega
  ·have hWk:Wk=2147483648:=by omega
   rw[hWk]
   rcases Nat.eq_zero_or_pos d with e|e
   ·subst e;simp;omega
   ·have a1:1*2147483648≤d*2147483648:=Nat.mul_le_mul_right _ e
    have a2:d*2147483648≤d*W:=Nat.mul_le_mul_left d hw
    omega
 ·rcases Nat.lt_or_ge W 2147483648 with hw|hw
  ·have:Wk=W:=by omega
   rw[this]
   omega
  ·have hWk:Wk=2147483648:=by omega
   rw[hWk]
   have a1:2147483648*1≤2147483648*f:=Nat.mul_le_mul_left _ hf
   have a2:2147483648*f≤W*f:=Nat.mul_le_mul_right f hw
   omega
end Go.Proofs.YtblcoicaeeiojaaGreatDoor
