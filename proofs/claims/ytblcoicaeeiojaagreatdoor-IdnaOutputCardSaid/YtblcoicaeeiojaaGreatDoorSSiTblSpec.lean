/-
  The tables that keep.Tables makes, plain mathematics: they are well-formed.
-/
import Derived.Test.YtblcoicaeeiojaaGreatDoorSSiPmTabL
import Derived.Test.YtblcoicaeeiojaaGreatDoorSSiPmTabW
set_option linter.unusedSimpArgs false
set_option linter.unusedVariables false
namespace Go.Proofs.YtblcoicaeeiojaaGreatDoor
def poolL:List Int:=[173,183,769,776,803,837,885,945,946,947,1072,1488,1523,1576,1577,1632,1776,2381,7680,7681,7682,7683,7684,8204,8205,12539,19968,128512]
def poolAt (k:Nat):Int:=poolL.getD k 1114112
theorem pool_step:∀k,k<28→poolAt k+1≤poolAt (k+1):=by decide +kernel
theorem pool_mem:∀k,k<28→poolAt k∈poolL:=by decide +kernel
theorem pool_bd:∀k,k<28→0≤poolAt k∧poolAt k≤1114111:=by decide +kernel
theorem pool_free:∀c∈poolL,resB c=false:=by decide +kernel
structure PoolSp (k:Nat) (hi:Int) (L:List Sp):Prop where
 asc:ascB 0 L=true
 fin:ends 0 L≤poolAt k
 len:L.length≤k
 mem:∀s∈L,s.1=s.2.1∧s.1∈poolL∧1≤s.2.2∧s.2.2≤hi
theorem PoolSp.nil (hi:Int):PoolSp 0 hi []:=⟨rfl,by decide,Nat.le_refl _,by simp⟩
theorem PoolSp.skip {k:Nat} {hi:Int} {L:List Sp} (h:PoolSp k hi L) (hk:k<28):PoolSp (k+1) hi L :=
 ⟨h.asc,by have:=pool_step k hk;have:=h.fin;omega,by have:=h.len;omega,h.mem⟩
theorem PoolSp.snoc {k:Nat} {hi v:Int} {L:List Sp} (h:PoolSp k hi L) (hk:k<28) (h1:1≤v) (h2:v≤hi):PoolSp (k+1) hi (L++[(poolAt k,poolAt k,v)]):=by
 refine⟨?_,?_,?_,?_⟩
 ·rw[asc_snoc_iff]
  have:=pool_bd k hk
  exact⟨h.asc,h.fin,Int.le_refl _,this.2⟩
 ·rw[ends_append];exact pool_step k hk
 ·have:=h.len;simp;omega
 ·intro s hs
  rcases List.mem_append.1 hs with hs|hs
  ·exact h.mem s hs
  ·simp only[List.mem_singleton]at hs
   subst hs
   exact⟨rfl,pool_mem k hk,h1,h2⟩
def addL (L:List Sp) (s:Sp) (v:Int):List Sp:=if 0<v then L++[(s.1,s.2.1,v)]else L
theorem PoolSp.add {k:Nat} {hi v:Int} {L:List Sp} (h:PoolSp k hi L) (hk:k<28) (h2:v≤hi) (z:Int):PoolSp (k+1) hi (addL L (poolAt k,poolAt k,z) v):=by
 unfold addL
 split
 ·exact h.snoc hk (by omega) h2
 ·exact h.skip hk
theorem PoolSp.in_pool {k:Nat} {hi c v:Int} {L:List Sp} (h:PoolSp k hi L) (hv:val L c=some v):c∈poolL:=by
 obtain⟨s,hs,h1,h2,_⟩:=val_mem hv
 obtain⟨e,hm,_⟩:=h.mem s hs
 have:s.1=c:=by omega
 rw[←this];exact hm
theorem PoolSp.none {k:Nat} {hi c:Int} {L:List Sp} (h:PoolSp k hi L) (hc:c∉poolL):val L c=none:=by
 cases hv:val L c with
 | none=>rfl
 | some v=>exact absurd (h.in_pool hv) hc
theorem PoolSp.spOk {k:Nat} {hi:Int} {L:List Sp} (h:PoolSp k hi L):spOk L=true:=by
 unfold Go.Proofs.YtblcoicaeeiojaaGreatDoor.spOk
 rw[h.asc,Bool.true_and,List.all_eq_true]
 intro s hs
 obtain⟨e,hm,_⟩:=h.mem s hs
 have:=pool_free s.1 hm
 unfold resB at this
 rw[←e,this];rfl
theorem PoolSp.vals {k:Nat} {hi lo:Int} {L:List Sp} (h:PoolSp k hi L) (hl:lo≤1):valOk lo hi L=true:=by
 unfold valOk
 rw[List.all_eq_true]
 intro s hs
 obtain⟨_,_,h1,h2⟩:=h.mem s hs
 simp only[Bool.and_eq_true,decide_eq_true_eq]
 omega
theorem val_of_in {lo:Int} {L:List Sp} (ha:ascB lo L=true) {s:Sp} (hs:s∈L):val L s.1=some s.2.2:=by
 induction L generalizing lo with
 | nil=>cases hs
 | cons t r ih =>
  rw[asc_cons]at ha
  rw[val_cons]
  rcases List.mem_cons.1 hs with rfl|hs
  ·rw[if_pos (by omega)]
  ·have:=asc_mem ha.2.2.2 hs
   rw[if_neg (by omega)]
   exact ih ha.2.2.2 hs
def marks:List Int:=[769,776,803,837,945]
def headOk (j:Nat) (a:Int):Prop:=a=97∨a=98∨∃i:Nat,i<j∧a=7680+i
def toOk (j:Nat) (tl:List Int):Prop:=∃a,headOk j a∧(tl=[a]∨∃b∈marks,tl=[a,b])
structure DecOk (k:Nat) (D:List Mp) (E:List Int):Prop where
 len:D.length≤k
 elen:E.length≤k
 asc:ascI 0 1114111 (froms D)=true
 fin:endI 0 (froms D)≤7680+k
 easc:ascI 0 1114111 E=true
 efin:endI 0 E≤7680+k
 mem:∀m∈D,∃j:Nat,j<k∧m.1=7680+j∧toOk j m.2
 exc:∀c∈E,hasM D c=true
 dup:D.Pairwise fun a b=>a.2=b.2→b.1∈E
theorem DecOk.nil:DecOk 0 [] []:=⟨Nat.le_refl _,Nat.le_refl _,rfl,by decide,rfl,by decide,by simp,by simp,List.Pairwise.nil⟩
theorem DecOk.skip {k:Nat} {D:List Mp} {E:List Int} (h:DecOk k D E):DecOk (k+1) D E :=
 ⟨by have:=h.len;omega,by have:=h.elen;omega,h.asc,by have:=h.fin;omega,h.easc,by have:=h.efin;omega,fun m hm=>by obtain⟨j,h1,h2⟩:=h.mem m hm;exact⟨j,by omega,h2⟩,h.exc,h.dup⟩
theorem froms_snoc (D:List Mp) (m:Mp):froms (D++[m])=froms D++[m.1]:=by simp[froms]
theorem hasM_snoc (D:List Mp) (m:Mp) (c:Int):hasM (D++[m]) c=(hasM D c||decide (m.1=c)):=by simp[hasM]
theorem DecOk.snoc {k : Nat} {D : List Mp} {E : List Int} {tl : List Int} {B : Bool} (h : DecOk k D E) (hk : k < 5) (ht : toOk k tl) (hB : B = false → ∀ d ∈ D, d.2 ≠ tl) :
  DecOk (k+1) (D++[(7680+(k:Int),tl)]) (if B then E++[7680+(k:Int)]else E):=by
 refine⟨?_,?_,?_,?_,?_,?_,?_,?_,?_⟩
 ·have:=h.len;simp;omega
 ·have:=h.elen;split<;>simp<;>omega
 ·rw[froms_snoc,ascI_snoc];exact⟨h.asc,h.fin,by simp only;omega⟩
 ·rw[froms_snoc,endI_snoc];simp only;omega
 ·split
  ·rw[ascI_snoc];exact⟨h.easc,h.efin,by omega⟩
  ·exact h.easc
 ·split
  ·rw[endI_snoc];omega
  ·have:=h.efin;omega
 ·intro m hm
  rcases List.mem_append.1 hm with hm|hm
  ·obtain⟨j,h1,h2⟩:=h.mem m hm;exact⟨j,by omega,h2⟩
  ·simp only[List.mem_singleton]at hm
   subst hm
   exact⟨k,by omega,rfl,ht⟩
 ·intro c hc
  rw[hasM_snoc,Bool.or_eq_true,decide_eq_true_eq]
  split at hc
  ·rcases List.mem_append.1 hc with hc|hc
   ·exact .inl (h.exc c hc)
   ·simp only[List.mem_singleton]at hc;exact .inr hc.symm
  ·exact .inl (h.exc c hc)
 ·rw[List.pairwise_append]
  refine⟨?_,List.pairwise_singleton _ _,?_⟩
  ·refine h.dup.imp ?_
   intro a b hab e
   have:=hab e
   split
   ·exact List.mem_append_left _ this
   ·exact this
  ·intro a ha b hb e
   simp only[List.mem_singleton]at hb
   subst hb
   cases B with
   | false=>exact absurd e (hB rfl a ha)
   | true=>simp
theorem dec_low {k:Nat} {D:List Mp} {E:List Int} (h:DecOk k D E) {c:Int} (hc:c<7680):hasM D c=false:=by
 cases hb:hasM D c with
 | false=>rfl
 | true =>
  obtain⟨m,hm,e⟩:=hasM_iff.1 hb
  obtain⟨j,_,e2,_⟩:=h.mem m hm
  omega
theorem marks_low:∀b∈marks,b<7680∧scaB b=true∧forb b=false:=by decide +kernel
theorem headOk.facts {j:Nat} {a:Int} (h:headOk j a) (hj:j<5):scaB a=true∧forb a=false:=by
 rcases h with rfl|rfl|⟨i,hi,rfl⟩
 ·decide
 ·decide
 ·have:i=0∨i=1∨i=2∨i=3∨i=4:=by omega
  rcases this with rfl|rfl|rfl|rfl|rfl<;>decide +kernel
theorem toOk.facts {j:Nat} {tl:List Int} (h:toOk j tl) (hj:j<5):1≤tl.length∧tl.length≤2∧tl.all scaB=true∧(tl.all fun c => !forb c)=true:=by
 obtain⟨a,ha,hto⟩:=h
 have hf:=ha.facts hj
 rcases hto with rfl|⟨b,hb,rfl⟩
 ·simp[hf]
 ·have:=marks_low b hb
  simp[hf,this]
theorem siz_low {k:Nat} {D:List Mp} {E:List Int} (h:DecOk k D E) {c:Int} (hc:c<7680):siz D c=1:=siz_nil (findM_nil (dec_low h hc))
theorem dec_siz {k:Nat} {D:List Mp} {E:List Int} (h:DecOk k D E) (hk:k≤5) (j:Nat):siz D (7680+j)≤j+2:=by
 induction j using Nat.strongRecOn with
 | ind j ih =>
  by_cases he:findM D (7680+j)=[]
  ·rw[siz_nil he];omega
  ·have hl:D.length≤256:=by have:=h.len;omega
   rw[siz_eq hl he]
   have hh:hasM D (7680+j)=true:=by
    cases hb:hasM D (7680+j) with
    | true=>rfl
    | false=>exact absurd (findM_nil hb) he
   obtain⟨j',h1,h2,ht⟩:=h.mem _ (findM_has hh)
   simp only at h2 ht
   obtain rfl:j=j':=by omega
   obtain⟨a,ha,hto⟩:=ht
   have hsa:siz D a≤j+1:=by
    rcases ha with rfl|rfl|⟨i,hi,rfl⟩
    ·rw[siz_low h (by omega)];omega
    ·rw[siz_low h (by omega)];omega
    ·have:=ih i hi;omega
   rcases hto with e|⟨b,hb,e⟩
   ·rw[e];simp;omega
   ·have hsb:=siz_low h (marks_low b hb).1
    rw[e];simp[hsb];omega
theorem comp_free {T:Tb} {c:Int} (h:compT T c=true):c∉T.exc:=by
 intro hc
 unfold compT at h
 rw[cmpF]at h
 split at h
 ·rename_i a b _
  have:excT T c=true:=by simpa[excT] using hc
  rw[this]at h
  simp at h
 ·cases h
theorem DecOk.r8 {k:Nat} {T:Tb} (h:DecOk k T.dec T.exc):r8 T=true:=by
 unfold Go.Proofs.YtblcoicaeeiojaaGreatDoor.r8 cmpTos
 rw[decide_eq_true_eq,List.Nodup,List.pairwise_map]
 have h2:(T.dec.filter fun m=>compT T m.1).Pairwise fun a b=>a.2=b.2→b.1∈T.exc:=h.dup.filter _
 refine h2.imp_of_mem ?_
 intro a b _ hb hab e
 have hc:=(List.mem_filter.1 hb).2
 exact comp_free hc (hab e)
def mapTo (tl:List Int):Prop:=∃a∈([97,98,99]:List Int),tl=[a]∨tl=[a,46]
structure MapOk (k:Nat) (M:List Mp) (S:List Sp):Prop where
 sp:PoolSp k 4 S
 len:M.length≤k
 asc:ascI 0 1114111 (froms M)=true
 fin:endI 0 (froms M)≤poolAt k
 mem:∀m∈M,(m.1,m.1,3)∈S∧m.1∈poolL∧mapTo m.2
 cnt:cntV 3 S=M.length
 back:∀s∈S,s.2.2=3→hasM M s.1=true
theorem MapOk.nil:MapOk 0 [] []:=⟨PoolSp.nil _,Nat.le_refl _,rfl,by decide,by simp,rfl,by simp⟩
theorem MapOk.plain {k:Nat} {M:List Mp} {S:List Sp} {v:Int} (h:MapOk k M S) (hk:k<28) (hv:v≤4) (h3:v≠3) (z:Int):MapOk (k+1) M (addL S (poolAt k,poolAt k,z) v):=by
 refine⟨h.sp.add hk hv z,by have:=h.len;omega,h.asc,by have:=h.fin;have:=pool_step k hk;omega,?_,?_,?_⟩
 ·intro m hm
  obtain⟨h1,h2⟩:=h.mem m hm
  refine⟨?_,h2⟩
  unfold addL
  split
  ·exact List.mem_append_left _ h1
  ·exact h1
 ·unfold addL
  split
  ·rw[cntV_snoc,if_neg h3,h.cnt];omega
  ·exact h.cnt
 ·intro s hs h3s
  unfold addL at hs
  split at hs
  ·rcases List.mem_append.1 hs with hs|hs
   ·exact h.back s hs h3s
   ·simp only[List.mem_singleton]at hs
    subst hs
    exact absurd h3s h3
  ·exact h.back s hs h3s
theorem MapOk.more {k:Nat} {M:List Mp} {S:List Sp} {tl:List Int} (h:MapOk k M S) (hk:k<28) (ht:mapTo tl) (z:Int):MapOk (k+1) (M++[(poolAt k,tl)]) (addL S (poolAt k,poolAt k,z) 3):=by
 have hb:=pool_bd k hk
 refine⟨h.sp.add hk (by omega) z,by have:=h.len;simp;omega,?_,?_,?_,?_,?_⟩
 ·rw[froms_snoc,ascI_snoc];exact⟨h.asc,h.fin,hb.2⟩
 ·rw[froms_snoc,endI_snoc];exact pool_step k hk
 ·intro m hm
  unfold addL
  rw[if_pos (by omega)]
  rcases List.mem_append.1 hm with hm|hm
  ·obtain⟨h1,h2⟩:=h.mem m hm
   exact⟨List.mem_append_left _ h1,h2⟩
  ·simp only[List.mem_singleton]at hm
   subst hm
   exact⟨by simp,pool_mem k hk,ht⟩
 ·unfold addL
  rw[if_pos (by omega),cntV_snoc,h.cnt]
  simp only[List.length_append,List.length_cons,List.length_nil,if_true]
  omega
 ·intro s hs h3s
  rw[hasM_snoc,Bool.or_eq_true,decide_eq_true_eq]
  unfold addL at hs
  rw[if_pos (by omega)]at hs
  rcases List.mem_append.1 hs with hs|hs
  ·exact .inl (h.back s hs h3s)
  ·simp only[List.mem_singleton]at hs
   subst hs
   exact .inr rfl
def protoL:List Mp:=[(48,[111]),(109,[114,110]),(945,[97]),(1072,[97]),(1632,[111,803])]
def protoAt (k:Nat):Int:=(protoL.map (·.1)).getD k 1114112
structure ProOk (k:Nat) (I:List Sp) (P:List Mp):Prop where
 len:P.length≤k
 asc:ascI 0 1114111 (froms P)=true
 fin:endI 0 (froms P)≤protoAt k
 mem:∀m∈P,m∈protoL∧(val I m.1).isSome=false∧(val I (m.2.getLastD 0)).isSome=false
theorem proto_step:∀k,k<5→protoAt k+1≤protoAt (k+1):=by decide +kernel
theorem proto_at:∀k,k<5→protoL.getD k (0,[])∈protoL∧(protoL.getD k (0,[])).1=protoAt k∧0≤protoAt k∧protoAt k≤1114111:=by decide +kernel
theorem proto_from:∀m∈protoL,m.1<7680∧resP m.1=false∧1≤m.2.length∧m.2.length≤2:=by decide +kernel
theorem proto_to:∀m∈protoL,∀c∈m.2,c<7680∧scaB c=true∧sylB c=false∧(c=m.2.getLastD 0∨c∉poolL)∧∀n∈protoL,n.1≠c:=by decide +kernel
theorem ProOk.nil (I:List Sp):ProOk 0 I []:=⟨Nat.le_refl _,rfl,by decide,by simp⟩
theorem ProOk.skip {k:Nat} {I:List Sp} {P:List Mp} (h:ProOk k I P) (hk:k<5):ProOk (k+1) I P :=
 ⟨by have:=h.len;omega,h.asc,by have:=h.fin;have:=proto_step k hk;omega,h.mem⟩
theorem ProOk.snoc {k : Nat} {I : List Sp} {P : List Mp} (h : ProOk k I P) (hk : k < 5) (h1 : (val I (protoL.getD k (0, [])).1).isSome = false) (h2 : (val I ((protoL.getD k (0, [])).2.getLastD 0)).isSome = false) :
  ProOk (k+1) I (P++[protoL.getD k (0,[])]):=by
 obtain⟨g1,g2,g3,g4⟩:=proto_at k hk
 refine⟨by have:=h.len;simp;omega,?_,?_,?_⟩
 ·rw[froms_snoc,ascI_snoc,g2];exact⟨h.asc,h.fin,g4⟩
 ·rw[froms_snoc,endI_snoc,g2];exact proto_step k hk
 ·intro m hm
  rcases List.mem_append.1 hm with hm|hm
  ·exact h.mem m hm
  ·rw[List.mem_singleton]at hm
   subst hm
   exact⟨g1,h1,h2⟩
structure Made (T:Tb):Prop where
 cat:PoolSp 28 8 T.cat
 cls:PoolSp 28 254 T.cls
 joi:PoolSp 28 5 T.joi
 bid:PoolSp 28 11 T.bid
 scr:PoolSp 28 60 T.scr
 ign:PoolSp 28 1 T.ign
 map:MapOk 28 T.map T.sta
 dec:DecOk 5 T.dec T.exc
 pro:ProOk 5 T.ign T.pro
 ext:T.ext=[]∨T.ext=[(12539,[7,8])]
theorem Made.r2 {T:Tb} (h:Made T):r2 T=true:=by
 have hd:(froms T.dec).all (fun c => !resB c)=true:=by
  rw[List.all_eq_true]
  intro c hc
  simp only[froms,List.mem_map]at hc
  obtain⟨m,hm,rfl⟩:=hc
  obtain⟨j,h1,h2,_⟩:=h.dec.mem m hm
  have:j=0∨j=1∨j=2∨j=3∨j=4:=by omega
  rw[h2]
  rcases this with rfl|rfl|rfl|rfl|rfl<;>decide +kernel
 have hx:keyOk T.exc=true:=by
  unfold keyOk
  rw[h.dec.easc,Bool.true_and,List.all_eq_true]
  intro c hc
  obtain⟨m,hm,rfl⟩:=hasM_iff.1 (h.dec.exc c hc)
  exact List.all_eq_true.1 hd m.1 (by simp only[froms,List.mem_map];exact⟨m,hm,rfl⟩)
 have hm:keyOk (froms T.map)=true:=by
  unfold keyOk
  rw[h.map.asc,Bool.true_and,List.all_eq_true]
  intro c hc
  simp only[froms,List.mem_map]at hc
  obtain⟨m,hm,rfl⟩:=hc
  rw[pool_free _ (h.map.mem m hm).2.1];rfl
 have hp:keyOkP (froms T.pro)=true:=by
  unfold keyOkP
  rw[h.pro.asc,Bool.true_and,List.all_eq_true]
  intro c hc
  simp only[froms,List.mem_map]at hc
  obtain⟨m,hm,rfl⟩:=hc
  rw[(proto_from _ (h.pro.mem m hm).1).2.1];rfl
 have he:keyOk (froms T.ext)=true:=by
  rcases h.ext with e|e<;>rw[e]<;>decide +kernel
 have hdk:keyOk (froms T.dec)=true:=by unfold keyOk;rw[h.dec.asc,hd];rfl
 unfold Go.Proofs.YtblcoicaeeiojaaGreatDoor.r2 spansT
 simp only[List.all_cons,List.all_nil,h.cat.spOk,h.cls.spOk,h.joi.spOk,h.bid.spOk,h.scr.spOk,h.ign.spOk,h.map.sp.spOk,hx,hm,hp,he,hdk,Bool.and_self]
theorem mapTo.facts {tl:List Int} (h:mapTo tl):1≤tl.length∧tl.length≤2∧∀c∈tl,scaB c=true∧fixT c=1∧c∉poolL:=by
 obtain⟨a,ha,hto⟩:=h
 simp only[List.mem_cons,List.not_mem_nil,or_false]at ha
 rcases ha with rfl|rfl|rfl<;>rcases hto with rfl|rfl<;>decide +kernel
theorem Made.check {T:Tb} (h:Made T):checkT T=0:=by
 have h1:r1 T=true:=by
  have a1:=h.cat.len
  have a2:=h.cls.len
  have a3:=h.joi.len
  have a4:=h.bid.len
  have a5:=h.scr.len
  have a6:=h.ign.len
  have a7:=h.map.sp.len
  have b1:=h.map.len
  have b2:=h.dec.len
  have b3:=h.pro.len
  have b4:=h.dec.elen
  have b5:T.ext.length≤1:=by rcases h.ext with e|e<;>rw[e]<;>simp
  unfold r1 spansT mpsT fewS fewM
  simp only[List.all_cons,List.all_nil,Bool.and_eq_true,decide_eq_true_eq,and_true]
  omega
 have h3:r3 T=true:=by
  unfold r3
  rw[h.cat.vals (by omega),h.cls.vals (by omega),h.joi.vals (by omega),h.bid.vals (by omega),h.scr.vals (by omega),h.map.sp.vals (by omega),h.ign.vals (by omega)]
  rfl
 have h4:r4 T=true:=by
  unfold r4
  simp only[Bool.and_eq_true]
  refine⟨?_,?_,?_,?_⟩
  ·rcases h.ext with e|e<;>rw[e]<;>decide +kernel
  ·rw[List.all_eq_true]
   intro m hm
   obtain⟨g1,g2,g3⟩:=(h.map.mem m hm).2.2.facts
   unfold seqS
   simp only[Bool.and_eq_true,decide_eq_true_eq,List.all_eq_true]
   exact⟨⟨g1,by omega⟩,fun c hc=>(g3 c hc).1⟩
  ·rw[List.all_eq_true]
   intro m hm
   obtain⟨j,hj,_,ht⟩:=h.dec.mem m hm
   obtain⟨g1,g2,g3,_⟩:=ht.facts hj
   unfold seqS
   rw[g3]
   simp only[Bool.and_eq_true,decide_eq_true_eq,and_true]
   omega
  ·rw[List.all_eq_true]
   intro m hm
   have hp:=(h.pro.mem m hm).1
   obtain⟨_,_,g1,g2⟩:=proto_from m hp
   unfold seqS
   simp only[Bool.and_eq_true,decide_eq_true_eq,List.all_eq_true]
   exact⟨⟨g1,by omega⟩,fun c hc=>(proto_to m hp c hc).2.1⟩
 have h5:r5 T=true:=by
  unfold r5
  rw[Bool.and_eq_true,decide_eq_true_eq,List.all_eq_true]
  refine⟨fun m hm=>?_,h.map.cnt⟩
  obtain⟨g1,g2,g3⟩:=h.map.mem m hm
  unfold mapOk
  rw[Bool.and_eq_true,decide_eq_true_eq,List.all_eq_true]
  have e:=val_of_in h.map.sp.asc g1
  simp only at e
  refine⟨by unfold staT;rw[e];rfl,fun c hc=>?_⟩
  obtain⟨_,f1,f2⟩:=g3.facts.2.2 c hc
  unfold okSta staT
  rw[h.map.sp.none f2]
  simp[f1]
 have h6:r6 T=true:=by
  unfold r6
  rw[Bool.and_eq_true,List.all_eq_true,List.all_eq_true]
  refine⟨fun m hm=>?_,fun m hm=>?_⟩
  ·obtain⟨j,hj,_,ht⟩:=h.dec.mem m hm
   obtain⟨_,g2,_,g4⟩:=ht.facts hj
   unfold short2
   rw[g4,decide_eq_true g2];rfl
  ·obtain⟨j,hj,e,_⟩:=h.dec.mem m hm
   have:=dec_siz h.dec (Nat.le_refl _) j
   rw[decide_eq_true_eq,e];omega
 have h7:r7 T=true:=by
  unfold r7
  rw[List.all_eq_true]
  exact h.dec.exc
 have h9:r9 T=true:=by
  unfold r9
  rw[List.all_eq_true]
  intro m hm
  obtain⟨hp,g1,g2⟩:=h.pro.mem m hm
  unfold proOk plain ignT
  rw[dec_low h.dec (proto_from m hp).1,g1]
  simp only[Bool.not_false,Bool.true_and,List.all_eq_true]
  intro c hc
  obtain⟨f1,_,f3,f4,f5⟩:=proto_to m hp c hc
  have hn:hasM T.pro c=false:=by
   cases hb:hasM T.pro c with
   | false=>rfl
   | true =>
    obtain⟨n,hn,e⟩:=hasM_iff.1 hb
    exact absurd e (f5 n (h.pro.mem n hn).1)
  have hi:(val T.ign c).isSome=false:=by
   rcases f4 with e|e
   ·rw[e];exact g2
   ·rw[h.ign.none e];rfl
  rw[hn,f3,dec_low h.dec f1,hi];rfl
 simp[checkT,h1,h.r2,h3,h4,h5,h6,h7,h.dec.r8,h9]
end Go.Proofs.YtblcoicaeeiojaaGreatDoor
