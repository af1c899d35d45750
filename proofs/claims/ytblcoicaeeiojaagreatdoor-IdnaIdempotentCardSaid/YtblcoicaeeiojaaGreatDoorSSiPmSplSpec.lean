/- Lists of spans, plain mathematics: ascending lists, the valu -/
set_option linter.unusedSimpArgs false
set_option linter.unusedVariables false
namespace Go.Proofs.YtblcoicaeeiojaaGreatDoor
abbrev Sp:=Int × Int × Int
def ends (lo:Int):List Sp→Int
 | []=>lo
 | s::r=>ends (s.2.1+1) r
def ascB (lo:Int):List Sp→Bool
 | []=>true
 | s::r=>decide (lo≤s.1)&&(decide (s.1≤s.2.1)&&(decide (s.2.1≤1114111)&&ascB (s.2.1+1) r))
theorem asc_cons {lo:Int} {s:Sp} {r:List Sp}:ascB lo (s::r)=true↔lo≤s.1∧s.1≤s.2.1∧s.2.1≤1114111∧ascB (s.2.1+1) r=true:=by
 simp[ascB]
theorem ends_append (lo:Int) (a b:List Sp):ends lo (a++b)=ends (ends lo a) b:=by
 induction a generalizing lo with
 | nil=>rfl
 | cons s r ih=>exact ih _
theorem asc_append {lo:Int} {a b:List Sp}:ascB lo (a++b)=true↔ascB lo a=true∧ascB (ends lo a) b=true:=by
 induction a generalizing lo with
 | nil=>simp[ascB,ends]
 | cons s r ih=>simp only[List.cons_append,asc_cons,ih,ends,and_assoc]
theorem asc_weak {lo lo':Int} {l:List Sp} (h:ascB lo' l=true) (hl:lo≤lo'):ascB lo l=true:=by
 cases l with
 | nil=>rfl
 | cons s r=>rw[asc_cons]at h ⊢;exact⟨by omega,h.2⟩
theorem ends_ge {lo:Int} {l:List Sp} (h:ascB lo l=true):lo+l.length≤ends lo l:=by
 induction l generalizing lo with
 | nil=>simp[ends]
 | cons s r ih =>
  rw[asc_cons]at h
  have:=ih h.2.2.2
  simp only[ends,List.length_cons]
  omega
theorem ends_le {lo:Int} {l:List Sp} (h:ascB lo l=true) (hl:lo≤1114112):ends lo l≤1114112:=by
 induction l generalizing lo with
 | nil=>simpa[ends] using hl
 | cons s r ih=>rw[asc_cons]at h;exact ih h.2.2.2 (by omega)
theorem asc_mem {lo:Int} {l:List Sp} (h:ascB lo l=true) {s:Sp} (hs:s∈l):lo≤s.1∧s.1≤s.2.1∧s.2.1≤1114111∧s.2.1<ends lo l:=by
 induction l generalizing lo with
 | nil=>cases hs
 | cons t r ih =>
  rw[asc_cons]at h
  have h2:=ends_ge h.2.2.2
  rcases List.mem_cons.1 hs with rfl|hs
  ·simp only[ends];omega
  ·have:=ih h.2.2.2 hs
   simp only[ends];omega
def val:List Sp→Int→Option Int
 | [],_=>none
 | s::r,c=>if s.1≤c∧c≤s.2.1 then some s.2.2 else val r c
theorem val_cons (s:Sp) (r:List Sp) (c:Int):val (s::r) c=if s.1≤c∧c≤s.2.1 then some s.2.2 else val r c:=rfl
theorem val_append (a b:List Sp) (c:Int):val (a++b) c=(val a c).or (val b c):=by
 induction a with
 | nil=>simp[val]
 | cons s r ih=>simp only[List.cons_append,val_cons,ih];split<;>simp
theorem val_none {lo:Int} {l:List Sp} (h:ascB lo l=true) {c:Int} (hc:c<lo∨ends lo l≤c):val l c=none:=by
 induction l generalizing lo with
 | nil=>rfl
 | cons s r ih =>
  rw[asc_cons]at h
  have h2:=ends_ge h.2.2.2
  simp only[ends]at hc
  rw[val_cons,if_neg (by omega)]
  exact ih h.2.2.2 (by omega)
def touch (p s:Sp):Bool:=decide (p.2.1+1=s.1)&&decide (p.2.2=s.2.2)
def jstep (acc:List Sp) (s:Sp):List Sp :=
 match acc.getLast? with
 | none=>[s]
 | some p=>if touch p s=true then acc.dropLast++[(p.1,s.2.1,p.2.2)]else acc++[s]
def joinS (l:List Sp):List Sp:=l.foldl jstep []
def cnt:List Sp→Int
 | []=>0
 | s::r=>(s.2.1-s.1+1)+cnt r
abbrev Mp:=Int × List Int
structure Tb where
 cat:List Sp
 cls:List Sp
 joi:List Sp
 bid:List Sp
 scr:List Sp
 sta:List Sp
 ign:List Sp
 ext:List Mp
 map:List Mp
 dec:List Mp
 exc:List Int
 pro:List Mp
def findM:List Mp→Int→List Int
 | [],_=>[]
 | m::r,c=>if m.1=c then m.2 else findM r c
def hasM (l:List Mp) (c:Int):Bool:=l.any fun m=>decide (m.1=c)
theorem findM_nil {l:List Mp} {c:Int} (h:hasM l c=false):findM l c=[]:=by
 induction l with
 | nil=>rfl
 | cons m r ih =>
  simp only[hasM,List.any_cons,Bool.or_eq_false_iff,decide_eq_false_iff_not]at h
  rw[findM,if_neg h.1];exact ih h.2
theorem hasM_iff {l:List Mp} {c:Int}:hasM l c=true↔∃m∈l,m.1=c:=by
 simp[hasM]
theorem findM_has {l:List Mp} {c:Int} (h:hasM l c=true):(c,findM l c)∈l:=by
 induction l with
 | nil=>simp[hasM]at h
 | cons m r ih =>
  by_cases hm:m.1=c
  ·rw[findM,if_pos hm,←hm];exact List.mem_cons_self
  ·rw[findM,if_neg hm]
   have:hasM r c=true:=by
    simp only[hasM,List.any_cons,Bool.or_eq_true,decide_eq_true_eq]at h
    exact h.resolve_left hm
   exact List.mem_cons_of_mem _ (ih this)
def ascI (lo hi:Int):List Int→Bool
 | []=>true
 | v::r=>decide (lo≤v)&&(decide (v≤hi)&&ascI (v+1) hi r)
def endI (lo:Int):List Int→Int
 | []=>lo
 | v::r=>endI (v+1) r
theorem ascI_cons {lo hi v:Int} {r:List Int}:ascI lo hi (v::r)=true↔lo≤v∧v≤hi∧ascI (v+1) hi r=true:=by simp[ascI]
theorem ascI_append {lo hi:Int} {a b:List Int}:ascI lo hi (a++b)=true↔ascI lo hi a=true∧ascI (endI lo a) hi b=true:=by
 induction a generalizing lo with
 | nil=>simp[ascI,endI]
 | cons v r ih=>simp only[List.cons_append,ascI_cons,ih,endI,and_assoc]
theorem endI_append (lo:Int) (a b:List Int):endI lo (a++b)=endI (endI lo a) b:=by
 induction a generalizing lo with
 | nil=>rfl
 | cons v r ih=>exact ih _
theorem ascI_snoc {lo hi v:Int} {a:List Int}:ascI lo hi (a++[v])=true↔ascI lo hi a=true∧endI lo a≤v∧v≤hi:=by
 rw[ascI_append,ascI_cons];simp[ascI]
theorem endI_snoc (lo v:Int) (a:List Int):endI lo (a++[v])=v+1:=by rw[endI_append];rfl
theorem endI_ge {lo hi:Int} {a:List Int} (h:ascI lo hi a=true):lo≤endI lo a:=by
 induction a generalizing lo with
 | nil=>exact Int.le_refl _
 | cons v r ih=>rw[ascI_cons]at h;have:=ih h.2.2;simp only[endI];omega
theorem ascI_mem {lo hi:Int} {a:List Int} (h:ascI lo hi a=true) {v:Int} (hv:v∈a):lo≤v∧v≤hi∧v<endI lo a:=by
 induction a generalizing lo with
 | nil=>cases hv
 | cons u r ih =>
  rw[ascI_cons]at h
  have h2:=endI_ge h.2.2
  rcases List.mem_cons.1 hv with rfl|hv
  ·simp only[endI];omega
  ·have:=ih h.2.2 hv
   simp only[endI];omega
theorem ascI_take {lo hi:Int} {a:List Int} (k:Nat) (h:ascI lo hi a=true):ascI lo hi (a.take k)=true:=by
 rw[←List.take_append_drop k a,ascI_append]at h;exact h.1
theorem ascI_prefix {lo hi:Int} {a:List Int} (k:Nat) (h:ascI lo hi (a.take k)=false):ascI lo hi a=false:=by
 cases hb:ascI lo hi a with
 | false=>rfl
 | true=>rw[ascI_take k hb]at h;cases h
theorem ascI_nodup {lo hi:Int} {a:List Int} (h:ascI lo hi a=true):a.Nodup:=by
 induction a generalizing lo with
 | nil=>exact List.nodup_nil
 | cons v r ih =>
  rw[ascI_cons]at h
  rw[List.nodup_cons]
  refine⟨fun hv=>?_,ih h.2.2⟩
  have:=(ascI_mem h.2.2 hv).1
  omega
theorem ascI_mono {lo hi : Int} {a : List Int} (h : ascI lo hi a = true) (k : Nat) (hk : k < a.length) :
  (∀v∈a.take k,v<a.getD k 0)∧∀v∈a.drop (k+1),a.getD k 0<v:=by
 have e:a=a.take k++(a.getD k 0::a.drop (k+1)):=by
  have:a.getD k 0=a[k]:=by simp[hk]
  rw[this,←List.drop_eq_getElem_cons hk,List.take_append_drop]
 rw[e]at h
 rw[ascI_append,ascI_cons]at h
 refine⟨fun v hv=>?_,fun v hv=>?_⟩
 ·have:=(ascI_mem h.1 hv).2.2;omega
 ·have:=(ascI_mem h.2.2.2 hv).1;omega
def sylB (c:Int):Bool:=decide (44032≤c)&&decide (c≤55203)
def jamB (c:Int):Bool:=decide (4352≤c)&&decide (c≤4370)||decide (4449≤c)&&decide (c≤4469)||decide (4520≤c)&&decide (c≤4546)
def meets (f t a b:Int):Bool:=decide (f≤b)&&decide (a≤t)
def resF (f t:Int):Bool:=meets f t 0 127||(meets f t 4352 4370||(meets f t 4449 4469||(meets f t 4520 4546||(meets f t 44032 55203||meets f t 55296 57343))))
def resB (c:Int):Bool:=resF c c
def lowB (c:Int):Bool:=decide (97≤c)&&decide (c≤122)
def uppB (c:Int):Bool:=decide (65≤c)&&decide (c≤90)
def digB (c:Int):Bool:=decide (48≤c)&&decide (c≤57)
def latB (c:Int):Bool:=lowB c||digB c||decide (c=45)
def resP (c:Int):Bool:=resB c && !latB c
theorem sylB_iff {c:Int}:sylB c=true↔44032≤c∧c≤55203:=by simp[sylB]
theorem jamB_iff {c:Int}:jamB c=true↔(4352≤c∧c≤4370)∨(4449≤c∧c≤4469)∨(4520≤c∧c≤4546):=by simp[jamB,or_assoc]
theorem lowB_iff {c:Int}:lowB c=true↔97≤c∧c≤122:=by simp[lowB]
theorem uppB_iff {c:Int}:uppB c=true↔65≤c∧c≤90:=by simp[uppB]
theorem digB_iff {c:Int}:digB c=true↔48≤c∧c≤57:=by simp[digB]
theorem latB_iff {c:Int}:latB c=true↔(97≤c∧c≤122)∨(48≤c∧c≤57)∨c=45:=by simp[latB,lowB_iff,digB_iff,or_assoc]
theorem resF_iff {f t:Int}:resF f t=true↔(f≤127∧0≤t)∨(f≤4370∧4352≤t)∨(f≤4469∧4449≤t)∨(f≤4546∧4520≤t)∨(f≤55203∧44032≤t)∨(f≤57343∧55296≤t):=by simp[resF,meets]
theorem resB_iff {c:Int}:resB c=true↔(c≤127∧0≤c)∨(c≤4370∧4352≤c)∨(c≤4469∧4449≤c)∨(c≤4546∧4520≤c)∨(c≤55203∧44032≤c)∨(c≤57343∧55296≤c):=resF_iff
def fixC (c:Int):Int :=
 if lowB c||uppB c||sylB c||jamB c then 1 else if digB c then 3 else if 0≤c∧c<32∨c=127 then 8 else if c=32 then 7 else if 32<c∧c<127 then 5 else 0
def fixB (c:Int):Int :=
 if lowB c||uppB c then 0 else if digB c then 4 else if c=45 then 5 else if c=46 then 6 else if 0≤c∧c≤32∨c=127 then 11 else if 32<c∧c<127 then 8 else 0
def fixS (c:Int):Int:=if lowB c||uppB c then 3 else if 0≤c∧c≤127 then 1 else if sylB c||jamB c then 9 else 0
def fixT (c:Int):Int:=if latB c||decide (c=46)||sylB c then 1 else if uppB c then 3 else 0
def catT (T:Tb) (c:Int):Int:=(val T.cat c).getD (fixC c)
def clsT (T:Tb) (c:Int):Int:=(val T.cls c).getD 0
def joiT (T:Tb) (c:Int):Int:=(val T.joi c).getD 0
def bidT (T:Tb) (c:Int):Int:=(val T.bid c).getD (fixB c)
def scrT (T:Tb) (c:Int):Int:=(val T.scr c).getD (fixS c)
def staT (T:Tb) (c:Int):Int:=(val T.sta c).getD (fixT c)
def ignT (T:Tb) (c:Int):Bool:=(val T.ign c).isSome
def excT (T:Tb) (c:Int):Bool:=T.exc.contains c
def mapsT (T:Tb) (c:Int):List Int:=if uppB c then [c+32]else findM T.map c
def scaB (c:Int):Bool:=decide (0≤c)&&decide (c≤1114111) && !(decide (55296≤c)&&decide (c≤57343))
def spansT (T:Tb):List (List Sp):=[T.cat,T.cls,T.joi,T.bid,T.scr,T.sta,T.ign]
def mpsT (T:Tb):List (List Mp):=[T.ext,T.map,T.dec,T.pro]
def fewS (l:List Sp):Bool:=decide (l.length≤256)
def fewM (l:List Mp):Bool:=decide (l.length≤256)
def r1 (T:Tb):Bool:=(spansT T).all fewS&&((mpsT T).all fewM&&decide (T.exc.length≤256))
def spOk (l:List Sp):Bool:=ascB 0 l&&l.all fun s => !resF s.1 s.2.1
def keyOk (l:List Int):Bool:=ascI 0 1114111 l&&l.all fun c => !resB c
def keyOkP (l:List Int):Bool:=ascI 0 1114111 l&&l.all fun c => !resP c
def froms (l:List Mp):List Int:=l.map (·.1)
def r2 (T:Tb):Bool:=(spansT T).all spOk&&(keyOk (froms T.ext)&&(keyOk (froms T.map)&&(keyOk (froms T.dec)&&(keyOkP (froms T.pro)&&keyOk T.exc))))
def valOk (lo hi:Int) (l:List Sp):Bool:=l.all fun s=>decide (lo≤s.2.2)&&decide (s.2.2≤hi)
def r3 (T:Tb):Bool:=valOk 0 8 T.cat&&(valOk 1 254 T.cls&&(valOk 0 5 T.joi&&(valOk 0 11 T.bid&&(valOk 0 60 T.scr&&(valOk 0 4 T.sta&&valOk 1 1 T.ign)))))
def seqE (m:Mp):Bool:=decide (1≤m.2.length)&&decide (m.2.length≤18)&&ascI 3 60 m.2
def seqS (m:Mp):Bool:=decide (1≤m.2.length)&&decide (m.2.length≤18)&&m.2.all scaB
def r4 (T:Tb):Bool:=T.ext.all seqE&&(T.map.all seqS&&(T.dec.all seqS&&T.pro.all seqS))
def cntV (v:Int):List Sp→Int
 | []=>0
 | s::r=>(if s.2.2=v then s.2.1-s.1+1 else 0)+cntV v r
def okSta (T:Tb) (c:Int):Bool:=decide (staT T c=1)||decide (staT T c=4)
def mapOk (T:Tb) (m:Mp):Bool:=decide (staT T m.1=3)&&m.2.all (okSta T)
def r5 (T:Tb):Bool:=T.map.all (mapOk T)&&decide (cntV 3 T.sta=T.map.length)
def forb (c:Int):Bool:=decide (c=46)||(sylB c||jamB c)
def short2 (m:Mp):Bool:=decide (m.2.length≤2)&&m.2.all fun c => !forb c
def sz (l:List Mp):Nat→Int→Nat
 | 0,c=>if findM l c=[]then 1 else 19
 | k+1,c=>if findM l c=[]then 1 else min 19 ((findM l c).map (sz l k)).sum
def hasB (T:Tb) (l:List Int) (ks:List Int):Bool:=l.any fun c=>ks.contains (bidT T c)
def lastB (T:Tb):Int→List Int→Int
 | k,[]=>k
 | k,c::r=>lastB T (if bidT T c=10 then k else bidT T c) r
def ruleB (T:Tb) (l:List Int) (f z:Int):Int :=
 if f=1∨f=2 then
  if hasB T l [0,11]=true then 2
  else if z≠1∧z≠2∧z≠4∧z≠3 then 3
  else if hasB T l [4]=true∧hasB T l [3]=true then 4
  else 0
 else if f=0 then
  if hasB T l [1,2,3,11]=true then 5
  else if z≠0∧z≠4 then 6
  else 0
 else 1
def ruleT (T:Tb) (l:List Int):Int:=if l=[]then 0 else ruleB T l (bidT T (l.getD 0 0)) (lastB T (-1) l)
def rtlT (T:Tb) (l:List Int):Bool:=hasB T l [1,2,3]
theorem lastB_append (T:Tb):∀(a b:List Int) (k:Int),lastB T k (a++b)=lastB T (lastB T k a) b
 | [],b,k=>rfl
 | c::r,b,k=>by rw[List.cons_append,lastB,lastB,lastB_append T r b]
def arB (c:Int):Bool:=decide (1632≤c)&&decide (c≤1641)
def exB (c:Int):Bool:=decide (1776≤c)&&decide (c≤1785)
def kanB (T:Tb) (c:Int):Bool:=decide (scrT T c=7)||decide (scrT T c=8)||decide (scrT T c=6)
def prvC (l:List Int) (i:Nat):Int:=if i=0 then -1 else l.getD (i-1) (-1)
def nxtC (l:List Int) (i:Nat):Int:=l.getD (i+1) (-1)
def ctxB (T:Tb) (l:List Int) (i:Nat):Bool :=
 let c:=l.getD i 0
 if c=183 then decide (prvC l i=108)&&decide (nxtC l i=108)
 else if c=885 then decide (i+1<l.length)&&decide (scrT T (l.getD (i+1) 0)=4)
 else if c=1523∨c=1524 then decide (0<i)&&decide (scrT T (l.getD (i-1) 0)=11)
 else if c=12539 then l.any (kanB T)
 else if arB c=true then !l.any exB
 else if exB c=true then !l.any arB
 else true
def badC (T:Tb) (l:List Int):Nat→Nat→Option Nat
 | 0,_=>none
 | n+1,k=>if ctxB T l k=false then some k else badC T l n (k+1)
theorem badC_none (T:Tb) (l:List Int):∀(n k:Nat),badC T l n k=none↔∀j,k≤j→j<k+n→ctxB T l j=true
 | 0,k=>by simp[badC];intro j h1 h2;omega
 | n+1,k=>by
  rw[badC]
  cases h:ctxB T l k with
  | false =>
   rw[if_pos rfl]
   constructor
   ·intro e;cases e
   ·intro h2;have:=h2 k (Nat.le_refl _) (by omega);rw[h]at this;cases this
  | true =>
   rw[if_neg (by simp),badC_none T l n (k+1)]
   constructor
   ·intro h2 j h3 h4
    by_cases e:j=k
    ·rw[e];exact h
    ·exact h2 j (by omega) (by omega)
   ·intro h2 j h3 h4;exact h2 j (by omega) (by omega)
def solB (T:Tb) (c:Int):Bool := !decide (joiT T c=5)
def lefK (T:Tb) (l:List Int):Nat→Option Nat
 | 0=>none
 | i+1=>if solB T (l.getD i 0)=true then some i else lefK T l i
def rigL (T:Tb):Nat→List Int→Option Nat
 | _,[]=>none
 | k,c::r=>if solB T c=true then some k else rigL T (k+1) r
def rigK (T:Tb) (l:List Int) (i:Nat):Option Nat:=rigL T (i+1) (l.drop (i+1))
def optI:Option Nat→Int
 | none => -1
 | some k=>k
def joL (T:Tb) (c:Int):Bool:=decide (joiT T c=1)||decide (joiT T c=3)
def joR (T:Tb) (c:Int):Bool:=decide (joiT T c=2)||decide (joiT T c=3)
def aftV (T:Tb) (l:List Int) (i:Nat):Bool:=decide (0<i)&&decide (clsT T (l.getD (i-1) 0)=9)
def betB (T:Tb) (l:List Int) (i:Nat):Bool:=match lefK T l i,rigK T l i with
 | some a,some b=>joL T (l.getD a 0)&&joR T (l.getD b 0)
 | _,_=>false
def permB (T:Tb) (l:List Int) (i:Nat):Bool :=
 if l.getD i 0≠8204∧l.getD i 0≠8205 then true else aftV T l i||(decide (l.getD i 0=8204)&&betB T l i)
def badJ (T:Tb) (l:List Int):Nat→Nat→Option Nat
 | 0,_=>none
 | n+1,k=>if permB T l k=false then some k else badJ T l n (k+1)
theorem lefK_some (T:Tb) (l:List Int):∀(i a:Nat),lefK T l i=some a↔(a<i∧solB T (l.getD a 0)=true∧∀j,a<j→j<i→solB T (l.getD j 0)=false)
 | 0,a=>by simp[lefK]
 | i+1,a=>by
  rw[lefK]
  cases h:solB T (l.getD i 0) with
  | true =>
   rw[if_pos rfl]
   constructor
   ·intro e
    injection e with e
    subst e
    exact⟨by omega,h,fun j h1 h2=>by omega⟩
   ·intro ⟨h1,h2,h3⟩
    by_cases e:a=i
    ·rw[e]
    ·have:=h3 i (by omega) (by omega)
     rw[h]at this;cases this
  | false =>
   rw[if_neg (by simp),lefK_some T l i a]
   constructor
   ·intro ⟨h1,h2,h3⟩
    refine⟨by omega,h2,fun j h4 h5=>?_⟩
    by_cases e:j=i
    ·rw[e];exact h
    ·exact h3 j h4 (by omega)
   ·intro ⟨h1,h2,h3⟩
    have hne:a≠i:=fun e=>by rw[e,h]at h2;cases h2
    exact⟨by omega,h2,fun j h4 h5=>h3 j h4 (by omega)⟩
theorem rigL_some (T:Tb):∀(r:List Int) (k b:Nat),rigL T k r=some b↔(k≤b∧b<k+r.length∧solB T (r.getD (b-k) 0)=true∧∀j,j<b-k→solB T (r.getD j 0)=false)
 | [],k,b=>by
  rw[rigL]
  constructor
  ·intro e;cases e
  ·intro ⟨h1,h2,_⟩;simp at h2;omega
 | c::r,k,b=>by
  rw[rigL]
  cases h:solB T c with
  | true =>
   rw[if_pos rfl]
   constructor
   ·intro e
    injection e with e
    subst e
    exact⟨Nat.le_refl _,by simp,by simpa using h,fun j hj=>by omega⟩
   ·intro ⟨h1,h2,h3,h4⟩
    by_cases e:b=k
    ·rw[e]
    ·have:=h4 0 (by omega)
     rw[List.getD_cons_zero,h]at this;cases this
  | false =>
   rw[if_neg (by simp),rigL_some T r (k+1) b]
   constructor
   ·intro ⟨h1,h2,h3,h4⟩
    refine⟨by omega,by simp;omega,?_,fun j hj=>?_⟩
    ·rw[show b-k=(b-(k+1))+1 by omega,List.getD_cons_succ];exact h3
    ·cases j with
     | zero=>rw[List.getD_cons_zero];exact h
     | succ j=>rw[List.getD_cons_succ];exact h4 j (by omega)
   ·intro ⟨h1,h2,h3,h4⟩
    have hne:b≠k:=fun e=>by rw[e,Nat.sub_self,List.getD_cons_zero,h]at h3;cases h3
    rw[show b-k=(b-(k+1))+1 by omega,List.getD_cons_succ]at h3
    refine⟨by omega,by simp at h2;omega,h3,fun j hj=>?_⟩
    have:=h4 (j+1) (by omega)
    rwa[List.getD_cons_succ]at this
theorem getD_drop_int (l:List Int) (k j:Nat):(l.drop k).getD j 0=l.getD (k+j) 0:=by simp[List.getD]
theorem rigK_some (T:Tb) (l:List Int) (i b:Nat):rigK T l i=some b↔(i<b∧b<l.length∧solB T (l.getD b 0)=true∧∀j,i<j→j<b→solB T (l.getD j 0)=false):=by
 unfold rigK
 rw[rigL_some]
 simp only[getD_drop_int,List.length_drop]
 constructor
 ·intro ⟨h1,h2,h3,h4⟩
  refine⟨by omega,by omega,by rwa[show i+1+(b-(i+1))=b by omega]at h3,fun j h5 h6=>?_⟩
  have:=h4 (j-(i+1)) (by omega)
  rwa[show i+1+(j-(i+1))=j by omega]at this
 ·intro ⟨h1,h2,h3,h4⟩
  refine⟨by omega,by omega,by rwa[show i+1+(b-(i+1))=b by omega],fun j hj=>?_⟩
  exact h4 (i+1+j) (by omega) (by omega)
theorem badJ_none (T:Tb) (l:List Int):∀(n k:Nat),badJ T l n k=none↔∀j,k≤j→j<k+n→permB T l j=true
 | 0,k=>by simp[badJ];intro j h1 h2;omega
 | n+1,k=>by
  rw[badJ]
  cases h:permB T l k with
  | false =>
   rw[if_pos rfl]
   constructor
   ·intro e;cases e
   ·intro h2;have:=h2 k (Nat.le_refl _) (by omega);rw[h]at this;cases this
  | true =>
   rw[if_neg (by simp),badJ_none T l n (k+1)]
   constructor
   ·intro h2 j h3 h4
    by_cases e:j=k
    ·rw[e];exact h
    ·exact h2 j (by omega) (by omega)
   ·intro h2 j h3 h4;exact h2 j (by omega) (by omega)
def adL (d k:Nat):Nat:=if h:455<d then adL (d / 35) (k+36)else k+36*d / (d+38)
termination_by d
decreasing_by omega
def adaptN (delta points:Nat) (first:Bool):Nat:=adL ((if first=true then delta / 700 else delta / 2)+(if first=true then delta / 700 else delta / 2) / points) 0
theorem adL_le (d k:Nat):adL d k≤k+d+36:=by
 rw[adL]
 split
 ·rename_i h
  have:=adL_le (d / 35) (k+36)
  omega
 ·have:36*d / (d+38)≤36:=by
   apply Nat.le_of_lt_succ
   rw[Nat.div_lt_iff_lt_mul (by omega)]
   omega
  omega
termination_by d
decreasing_by omega
def thr (b j:Nat):Nat:=min 26 (max 1 (36*(j+1)-b))
theorem thr_bd (b j:Nat):1≤thr b j∧thr b j≤26:=by unfold thr;omega
def pnumS (b j v:Nat):List Nat :=
 if h:v<thr b j then [v] else(thr b j+(v-thr b j)%(36-thr b j))::pnumS b (j+1) ((v-thr b j) / (36-thr b j))
termination_by v
decreasing_by
 have:=thr_bd b j
 have:=Nat.div_le_self (v-thr b j) (36-thr b j)
 omega
def pvalS (b:Nat):Nat→List Nat→Nat
 | _,[]=>0
 | j,d::r=>d+(36-thr b j)*pvalS b (j+1) r
def cmpl (b:Nat):Nat→List Nat→Prop
 | _,[]=>False
 | j,d::r=>if d<thr b j then r=[]else d<36∧cmpl b (j+1) r
theorem pvalS_pnumS (b j v:Nat):pvalS b j (pnumS b j v)=v:=by
 rw[pnumS]
 split
 ·simp[pvalS]
 ·rename_i h
  have ht:=thr_bd b j
  have ih:=pvalS_pnumS b (j+1) ((v-thr b j) / (36-thr b j))
  rw[pvalS,ih]
  have:=Nat.mod_add_div (v-thr b j) (36-thr b j)
  omega
termination_by v
decreasing_by
 have:=Nat.div_le_self (v-thr b j) (36-thr b j)
 omega
theorem cmpl_pnumS (b j v:Nat):cmpl b j (pnumS b j v):=by
 rw[pnumS]
 split
 ·rename_i h;simp[cmpl,h]
 ·rename_i h
  have ht:=thr_bd b j
  have ih:=cmpl_pnumS b (j+1) ((v-thr b j) / (36-thr b j))
  have hm:=Nat.mod_lt (v-thr b j) (show 36-thr b j>0 by omega)
  rw[cmpl,if_neg (by omega)]
  exact⟨by omega,ih⟩
termination_by v
decreasing_by
 have:=Nat.div_le_self (v-thr b j) (36-thr b j)
 omega
theorem cmpl_lt (b:Nat):∀(D:List Nat) (j:Nat),cmpl b j D→∀d∈D,d<36
 | [],_,h=>h.elim
 | d::r,j,h=>by
  have ht:=thr_bd b j
  rw[cmpl]at h
  intro x hx
  split at h
  ·rename_i hd;subst h;simp at hx;omega
  ·rcases List.mem_cons.1 hx with rfl|hx
   ·exact h.1
   ·exact cmpl_lt b r (j+1) h.2 x hx
def pdigB (v:Nat):Int:=if v<26 then 97+(v:Int)else 22+(v:Int)
def digV (c:Int):Option Nat :=
 if 97≤c∧c≤122 then some (c-97).toNat else if 65≤c∧c≤90 then some (c-65).toNat else if 48≤c∧c≤57 then some (c-22).toNat else none
theorem pdigB_range {v:Nat} (h:v<36):(97≤pdigB v∧pdigB v≤122)∨(48≤pdigB v∧pdigB v≤57):=by unfold pdigB;split<;>omega
theorem digV_pdigB {v:Nat} (h:v<36):digV (pdigB v)=some v:=by
 unfold pdigB digV
 split
 ·rw[if_pos (by omega)];congr 1;omega
 ·rw[if_neg (by omega),if_neg (by omega),if_pos (by omega)];congr 1;omega
theorem digV_lt {c:Int} {d:Nat} (h:digV c=some d):d<36:=by
 unfold digV at h
 split at h
 ·injection h;omega
 ·split at h
  ·injection h;omega
  ·split at h
   ·injection h;omega
   ·cases h
theorem pdigB_digV {c:Int} {d:Nat} (h:digV c=some d) (hc:¬(65≤c∧c≤90)):pdigB d=c:=by
 unfold digV at h
 split at h
 ·injection h;unfold pdigB;rw[if_pos (by omega)];omega
 ·split at h
  ·injection h;unfold pdigB;rw[if_neg (by omega)];omega
  ·cases h
def takeD (b:Nat):Nat→List Int→Option (List Nat × List Int)
 | _,[]=>none
 | j,c::r=>match digV c with
  | none=>none
  | some d=>if d<thr b j then some ([d],r)else match takeD b (j+1) r with
   | none=>none
   | some (D,q)=>some (d::D,q)
theorem takeD_num (b:Nat):∀(D:List Nat) (j:Nat) (r:List Int),cmpl b j D→takeD b j (D.map pdigB++r)=some (D,r)
 | [],_,_,h=>h.elim
 | d::D,j,r,h=>by
  have hd:=cmpl_lt b (d::D) j h d (by simp)
  rw[cmpl]at h
  rw[List.map_cons,List.cons_append,takeD,digV_pdigB hd]
  simp only
  split at h
  ·rename_i hl;subst h;rw[if_pos hl];simp
  ·rename_i hl;rw[if_neg hl,takeD_num b D (j+1) r h.2]
theorem takeD_some (b : Nat) : ∀ (s : List Int) (j : Nat) (D : List Nat) (r : List Int), takeD b j s = some (D, r) →
  cmpl b j D∧((∀c∈s,¬(65≤c∧c≤90))→s=D.map pdigB++r)∧∃A,s=A++r∧A≠[]
 | [],_,_,_,h=>by cases h
 | c::s,j,D,r,h=>by
  rw[takeD]at h
  split at h
  ·cases h
  ·rename_i d hd
   have hlt:=digV_lt hd
   split at h
   ·rename_i hl
    injection h with h
    injection h with h1 h2
    subst h1 h2
    refine⟨by rw[cmpl,if_pos hl],fun hs=>?_,[c],rfl,by simp⟩
    rw[List.map_cons,pdigB_digV hd (hs c (by simp))];rfl
   ·rename_i hl
    split at h
    ·cases h
    ·rename_i D' q hq
     injection h with h
     injection h with h1 h2
     subst h1 h2
     obtain⟨i1,i2,A,i3,i4⟩:=takeD_some b s (j+1) D' q hq
     refine⟨by rw[cmpl,if_neg hl];exact⟨hlt,i1⟩,fun hs=>?_,c::A,by rw[i3];rfl,by simp⟩
     rw[List.map_cons,pdigB_digV hd (hs c (by simp)),List.cons_append,←i2 (fun x hx=>hs x (by simp[hx]))]
def placed:List Int→List Bool→List Int
 | c::l,b::F=>if b=true then c::placed l F else placed l F
 | _,_=>[]
theorem placed_split : ∀ (l : List Int) (F : List Bool) (a : Nat), F.length = l.length → a < l.length →
  placed l F=placed (l.take a) (F.take a)++((if F.getD a true=true then [l.getD a 0]else [])++placed (l.drop (a+1)) (F.drop (a+1)))
 | [],_,_,_,h=>by simp at h
 | c::l,[],_,h,_=>by simp at h
 | c::l,b::F,0,h,_=>by
  simp only[List.take_zero,placed,List.nil_append,List.getD_cons_zero,Nat.zero_add,List.drop_succ_cons,List.drop_zero]
  cases b<;>simp
 | c::l,b::F,a+1,h,h2=>by
  have ih:=placed_split l F a (by simpa using h) (by simpa using h2)
  simp only[List.take_succ_cons,placed,List.getD_cons_succ,List.drop_succ_cons]
  cases b<;>simp[ih]
theorem placed_all:∀(l:List Int) (F:List Bool),F.length=l.length→(∀i,i<l.length→F.getD i true=true)→placed l F=l
 | [],_,_,_=>by cases ‹List Bool›<;>rfl
 | c::l,[],h,_=>by simp at h
 | c::l,b::F,h,hh=>by
  have h0:=hh 0 (by simp)
  simp at h0
  rw[placed,if_pos h0,placed_all l F (by simpa using h) (fun i hi=>by have:=hh (i+1) (by simpa using hi);simpa using this)]
def pcs (l:List Int) (F:List Bool) (a:Nat):Nat:=(placed (l.take a) (F.take a)).length
theorem pcs_le (l:List Int) (F:List Bool) (hF:F.length=l.length) {a:Nat} (ha:a<l.length):pcs l F a≤(placed l F).length:=by
 have:=placed_split l F a hF ha
 unfold pcs
 rw[this];simp
theorem getD_set_eq (F:List Bool) (a:Nat) (b:Bool) (h:a<F.length):(F.set a b).getD a true=b:=by simp[List.getD,h]
theorem getD_set_ne (F:List Bool) (a k:Nat) (b:Bool) (h:a≠k):(F.set a b).getD k true=F.getD k true:=by simp[List.getD,h]
theorem take_set_le (F:List Bool) {a k:Nat} (b:Bool) (h:k≤a):(F.set a b).take k=F.take k:=by
 apply List.ext_getElem?
 intro i
 by_cases hi:i<k
 ·simp[List.getElem?_take,hi,List.getElem?_set_ne (show a≠i by omega)]
 ·simp[List.getElem?_take,hi]
theorem drop_set_gt (F:List Bool) {a k:Nat} (b:Bool) (h:a<k):(F.set a b).drop k=F.drop k:=by
 apply List.ext_getElem?
 intro i
 simp[List.getElem?_drop,List.getElem?_set_ne (show a≠k+i by omega)]
theorem take_set_gt (F:List Bool) {a k:Nat} (b:Bool) (h:a<k):(F.set a b).take k=(F.take k).set a b:=by
 apply List.ext_getElem?
 intro i
 by_cases e:a=i
 ·subst e
  by_cases hf:a<F.length
  ·rw[List.getElem?_take,if_pos h,List.getElem?_set_self hf,List.getElem?_set_self (by simp;omega)]
  ·rw[List.getElem?_eq_none (by simp;omega),List.getElem?_eq_none (by simp;omega)]
 ·rw[List.getElem?_set_ne e]
  simp[List.getElem?_take,List.getElem?_set_ne e]
theorem placed_set (l : List Int) (F : List Bool) (a : Nat) (b : Bool) (hF : F.length = l.length) (ha : a < l.length) :
  placed l (F.set a b)=placed (l.take a) (F.take a)++((if b=true then [l.getD a 0]else [])++placed (l.drop (a+1)) (F.drop (a+1))):=by
 rw[placed_split l (F.set a b) a (by simpa using hF) ha,getD_set_eq _ _ _ (by omega),take_set_le F b (Nat.le_refl a),drop_set_gt F b (Nat.lt_succ_self a)]
theorem pcs_set (l : List Int) (F : List Bool) (a k : Nat) (b : Bool) (hF : F.length = l.length) (ha : a < l.length) (hk : k ≤ l.length) (h : a < k) :
  pcs l (F.set a b) k=pcs l F a+((if b=true then 1 else 0)+(placed ((l.take k).drop (a+1)) ((F.take k).drop (a+1))).length):=by
 unfold pcs
 rw[take_set_gt F b h,placed_set (l.take k) (F.take k) a b (by simp[hF]) (by simp;omega),List.take_take,List.take_take,Nat.min_eq_left (by omega)]
 cases b<;>simp<;>omega
def cutG (D:List (List Int)) (cur:List Int):List Int→List (List Int)
 | []=>D++[cur]
 | c::r=>if c=46 then cutG (D++[cur]) [] r else cutG D (cur++[c]) r
def cutD (l:List Int):List (List Int):=cutG [] [] l
def joinD:List (List Int)→List Int
 | []=>[]
 | x::t=>match t with
  | []=>x
  | _::_=>x++46::joinD t
theorem cutG_dot (D:List (List Int)) (cur r:List Int):cutG D cur (46::r)=cutG (D++[cur]) [] r:=by rw[cutG,if_pos rfl]
theorem cutG_no (D:List (List Int)) (cur r:List Int) {c:Int} (h:c≠46):cutG D cur (c::r)=cutG D (cur++[c]) r:=by rw[cutG,if_neg h]
theorem cutG_pre (D:List (List Int)) (cur l:List Int):cutG D cur l=D++cutG [] cur l:=by
 induction l generalizing D cur with
 | nil=>rfl
 | cons c r ih =>
  by_cases h:c=46
  ·subst h
   rw[cutG_dot,cutG_dot,ih,ih ([]++[cur])];simp
  ·rw[cutG_no _ _ _ h,cutG_no _ _ _ h,ih]
theorem cutG_ne (cur l:List Int):cutG [] cur l≠[]:=by
 cases l with
 | nil=>simp[cutG]
 | cons c r =>
  by_cases h:c=46
  ·subst h;rw[cutG_dot,cutG_pre];simp
  ·rw[cutG_no _ _ _ h]
   exact cutG_ne (cur++[c]) r
termination_by l.length
theorem cutD_ne (l:List Int):cutD l≠[]:=cutG_ne [] l
theorem joinD_cons (x:List Int) {t:List (List Int)} (h:t≠[]):joinD (x::t)=x++46::joinD t:=by
 cases t with
 | nil=>exact absurd rfl h
 | cons y r=>rfl
theorem cutG_len (D:List (List Int)) (cur l:List Int):(cutG D cur l).length=D.length+1+l.count 46:=by
 induction l generalizing D cur with
 | nil=>simp[cutG]
 | cons c r ih =>
  by_cases h:c=46
  ·subst h;rw[cutG_dot,ih];simp;omega
  ·rw[cutG_no _ _ _ h,ih,List.count_cons_of_ne (by simpa using h)]
theorem cutD_len (l:List Int):(cutD l).length=l.count 46+1:=by unfold cutD;rw[cutG_len];simp;omega
theorem cutG_run {x:List Int} (hx:(46:Int)∉x) (D:List (List Int)) (cur r:List Int):cutG D cur (x++r)=cutG D (cur++x) r:=by
 induction x generalizing cur with
 | nil=>simp
 | cons c t ih =>
  rw[List.cons_append,cutG_no _ _ _ (fun e=>hx (by simp[e])),ih (fun h=>hx (by simp[h]))];simp
theorem cut_join:∀(L:List (List Int)),L≠[]→(∀y∈L,(46:Int)∉y)→cutD (joinD L)=L
 | [],h,_=>absurd rfl h
 | [x],_,hx=>by
  have:=cutG_run (hx x (by simp)) [] [] []
  rw[List.append_nil]at this
  unfold cutD joinD
  rw[this];simp[cutG]
 | x::y::t,_,hx=>by
  have ih:=cut_join (y::t) (by simp) (fun z hz=>hx z (by simp[hz]))
  unfold cutD at ih ⊢
  rw[joinD_cons x (by simp),cutG_run (hx x (by simp)),cutG_dot,cutG_pre,ih];simp
theorem join_len:∀(L:List (List Int)),(joinD L).length=(L.map List.length).sum+(L.length-1)
 | []=>rfl
 | [x]=>by simp[joinD]
 | x::y::t=>by
  have ih:=join_len (y::t)
  rw[joinD_cons x (by simp),List.length_append,List.length_cons,ih]
  simp only[List.map_cons,List.sum_cons,List.length_cons]
  omega
def chkK:Nat→List Nat→Option (Nat × Int)
 | _,[]=>none
 | k,n::r=>if n=0 then some (k,10)else if 63<n then some (k,11)else chkK (k+1) r
def chkD (L:List Nat):Nat × Int :=
 if L=[] then(0,10)else match chkK 0 L with
  | some p=>p
  | none=>if 127<L.length∨253<L.sum+(L.length-1) then(0,11) else(0,0)
theorem chkK_none:∀(k:Nat) (L:List Nat),chkK k L=none→∀n∈L,1≤n∧n≤63
 | _,[],_,n,h=>by cases h
 | k,m::r,he,n,h=>by
  rw[chkK]at he
  split at he
  ·cases he
  ·split at he
   ·cases he
   ·rcases List.mem_cons.1 h with rfl|h
    ·omega
    ·exact chkK_none (k+1) r he n h
theorem chkK_all:∀(k:Nat) (L:List Nat),(∀n∈L,1≤n∧n≤63)→chkK k L=none
 | _,[],_=>rfl
 | k,m::r,h=>by
  have:=h m (by simp)
  rw[chkK,if_neg (by omega),if_neg (by omega)]
  exact chkK_all (k+1) r (fun n hn=>h n (by simp[hn]))
theorem chkK_err:∀(k:Nat) (L:List Nat) (p:Nat × Int),chkK k L=some p→¬p.2=0
 | _,[],p,h=>by cases h
 | k,m::r,p,h=>by
  rw[chkK]at h
  split at h
  ·injection h with h;subst h;simp
  ·split at h
   ·injection h with h;subst h;simp
   ·exact chkK_err (k+1) r p h
theorem chkD_ok {L:List Nat} (h:(chkD L).2=0):L≠[]∧(∀n∈L,1≤n∧n≤63)∧L.length≤127∧L.sum+(L.length-1)≤253:=by
 unfold chkD at h
 split at h
 ·simp at h
 ·rename_i hne
  cases hk:chkK 0 L with
  | some p =>
   rw[hk]at h
   simp only at h
   exact absurd h (chkK_err 0 L p hk)
  | none =>
   rw[hk]at h
   simp only at h
   split at h
   ·simp at h
   ·exact⟨hne,chkK_none 0 L hk,by omega,by omega⟩
def leastK (l:List Int) (F:List Bool):Nat→Option Nat
 | 0=>none
 | k+1=>match leastK l F k with
  | none=>if F.getD k true=false then some k else none
  | some a=>if F.getD k true=false∧l.getD k 0<l.getD a 0 then some k else some a
theorem leastK_none (l:List Int) (F:List Bool):∀k,leastK l F k=none→∀i,i<k→F.getD i true=true
 | 0,_,i,hi=>by omega
 | k+1,h,i,hi=>by
  rw[leastK]at h
  cases hk:leastK l F k with
  | none =>
   rw[hk]at h
   simp only at h
   split at h
   ·cases h
   ·rename_i hf
    by_cases e:i=k
    ·rw[e];simpa using hf
    ·exact leastK_none l F k hk i (by omega)
  | some a =>
   rw[hk]at h
   simp only at h
   split at h<;>cases h
structure IsLeast (l:List Int) (F:List Bool) (k a:Nat):Prop where
 lt:a<k
 out:F.getD a true=false
 min:∀i,i<k→F.getD i true=false→l.getD a 0≤l.getD i 0∧(l.getD i 0=l.getD a 0→a≤i)
theorem leastK_some (l:List Int) (F:List Bool):∀k a,leastK l F k=some a→IsLeast l F k a
 | 0,a,h=>by cases h
 | k+1,a,h=>by
  rw[leastK]at h
  cases hk:leastK l F k with
  | none =>
   rw[hk]at h
   simp only at h
   split at h
   ·rename_i hf
    injection h with h
    subst h
    refine⟨by omega,hf,fun i hi hi2=>?_⟩
    by_cases e:i=k
    ·rw[e];exact⟨Int.le_refl _,fun _=>Nat.le_refl _⟩
    ·have:=leastK_none l F k hk i (by omega)
     rw[this]at hi2;cases hi2
   ·cases h
  | some b =>
   rw[hk]at h
   simp only at h
   have ih:=leastK_some l F k b hk
   split at h
   ·rename_i hf
    injection h with h
    subst h
    refine⟨by omega,hf.1,fun i hi hi2=>?_⟩
    by_cases e:i=k
    ·rw[e];exact⟨Int.le_refl _,fun _=>Nat.le_refl _⟩
    ·have:=(ih.min i (by omega) hi2).1
     exact⟨by omega,fun h=>by omega⟩
   ·rename_i hf
    injection h with h
    subst h
    refine⟨by have:=ih.lt;omega,ih.out,fun i hi hi2=>?_⟩
    by_cases e:i=k
    ·subst e
     have:¬l.getD i 0<l.getD b 0:=fun h=>hf ⟨hi2,h⟩
     exact⟨by omega,fun _=>by have:=ih.lt;omega⟩
    ·exact ih.min i (by omega) hi2
theorem leastK_is {l:List Int} {F:List Bool} {k a:Nat} (h:IsLeast l F k a):leastK l F k=some a:=by
 cases hk:leastK l F k with
 | none=>have:=leastK_none l F k hk a h.lt;rw[h.out]at this;cases this
 | some b =>
  have hb:=leastK_some l F k b hk
  have h1:=h.min b hb.lt hb.out
  have h2:=hb.min a h.lt h.out
  have e:l.getD a 0=l.getD b 0:=by omega
  have h3:=h1.2 e.symm
  have h4:=h2.2 e
  congr 1
  omega
def stepV (l:List Int) (F:List Bool) (n:Int) (i a:Nat):Nat:=((l.getD a 0-n)*((placed l F).length+1:Nat)+(pcs l F a:Nat)-(i:Nat)).toNat
def pencL (l:List Int):Nat→List Bool→Int→Nat→Nat→Bool→List Int
 | 0,_,_,_,_,_=>[]
 | f+1,F,n,i,b,first=>match leastK l F l.length with
  | none=>[]
  | some a=>(pnumS b 0 (stepV l F n i a)).map pdigB++pencL l f (F.set a true) (l.getD a 0) (pcs l F a+1) (adaptN (stepV l F n i a) ((placed l F).length+1) first) false
def scpB (c:Int):Bool:=decide (0≤c)&&decide (c≤1114111) && !(decide (55296≤c)&&decide (c≤57343))
def stepD (P:List Int) (n:Int) (i v:Nat):Int × Nat:=(n+((v+i) / (P.length+1):Nat),(v+i)%(P.length+1))
def putD (P:List Int) (m:Int) (j:Nat):List Int:=P.take j++m::P.drop j
def pdecL:Nat→List Int→Int→Nat→Nat→Bool→List Int→List Int × Int
 | _,P,_,_,_,_,[]=>(P,0)
 | 0,P,_,_,_,_,_::_=>([],12)
 | f+1,P,n,i,b,first,c::s=>match takeD b 0 (c::s) with
  | none=>([],12)
  | some (D,r) =>
   if 2147483647<pvalS b 0 D∨1114111<(stepD P n i (pvalS b 0 D)).1 then([],8)
   else if scpB (stepD P n i (pvalS b 0 D)).1=false then([],12)
   else pdecL f (putD P (stepD P n i (pvalS b 0 D)).1 (stepD P n i (pvalS b 0 D)).2) (stepD P n i (pvalS b 0 D)).1 ((stepD P n i (pvalS b 0 D)).2+1) (adaptN (pvalS b 0 D) (P.length+1) first) false r
def Ahead (l:List Int) (F:List Bool) (n:Int) (i:Nat):Prop :=
 ∀a,a<l.length→F.getD a true=false→n<l.getD a 0∨(n=l.getD a 0∧i≤pcs l F a)
theorem putD_placed {l : List Int} {F : List Bool} {a : Nat} (hF : F.length = l.length) (ha : a < l.length) (hf : F.getD a true = false) :
  putD (placed l F) (l.getD a 0) (pcs l F a)=placed l (F.set a true)∧(placed l (F.set a true)).length=(placed l F).length+1:=by
 have h1:=placed_split l F a hF ha
 rw[if_neg (by rw[hf];simp),List.nil_append]at h1
 have h2:=placed_set l F a true hF ha
 rw[if_pos rfl]at h2
 unfold putD pcs
 constructor
 ·rw[h1,h2];simp
 ·rw[h1,h2];simp;omega
theorem ahead_step {l : List Int} {F : List Bool} {n : Int} {i a : Nat} (hF : F.length = l.length) (hl : IsLeast l F l.length a) (h : Ahead l F n i) :
  n≤l.getD a 0∧Ahead l (F.set a true) (l.getD a 0) (pcs l F a+1)∧
   (n=l.getD a 0→i≤pcs l F a):=by
 have h0:=h a hl.lt hl.out
 refine⟨by omega,fun k hk hk2=>?_,fun e=>by omega⟩
 have hne:a≠k:=by
  intro e
  subst e
  rw[getD_set_eq F a true (by omega)]at hk2
  cases hk2
 rw[getD_set_ne F a k true hne]at hk2
 have hm:=hl.min k hk hk2
 by_cases e:l.getD k 0=l.getD a 0
 ·right
  have hak:a<k:=by have:=hm.2 e;omega
  refine⟨e.symm,?_⟩
  rw[pcs_set l F a k true hF hl.lt (by omega) hak,if_pos rfl]
  omega
 ·left;omega
theorem step_back {P : List Int} {n m : Int} {i j v : Nat} (hn : n ≤ m) (hj : j ≤ P.length) (hij : n = m → i ≤ j) (hi : i ≤ P.length) (hv : v = ((m - n) * (P.length + 1 : Nat) + (j : Nat) - (i : Nat)).toNat) :
  stepD P n i v=(m,j)∧(v:Int)=(m-n)*(P.length+1:Nat)+(j:Nat)-(i:Nat):=by
 obtain⟨q,hq⟩:∃q:Nat,m-n=q:=⟨(m-n).toNat,by omega⟩
 rw[hq]at hv
 have hvi:v+i=q*(P.length+1)+j:=by
  have h1:((q:Int)*((P.length+1:Nat):Int))=((q*(P.length+1):Nat):Int):=by rw[Int.natCast_mul]
  rw[h1]at hv
  have h2:i≤q*(P.length+1)+j:=by
   cases q with
   | zero=>have:=hij (by omega);omega
   | succ q=>rw[Nat.succ_mul];omega
  omega
 have e1:(v+i) / (P.length+1)=q:=by
  rw[hvi,Nat.mul_comm,Nat.mul_add_div (by omega),Nat.div_eq_of_lt (by omega)];omega
 have e2:(v+i)%(P.length+1)=j:=by
  rw[hvi,Nat.mul_comm,Nat.mul_add_mod,Nat.mod_eq_of_lt (by omega)]
 constructor
 ·unfold stepD
  rw[e1,e2]
  congr 1
  omega
 ·rw[hq]
  have h1:((q:Int)*((P.length+1:Nat):Int))=((q*(P.length+1):Nat):Int):=by rw[Int.natCast_mul]
  rw[h1]
  omega
theorem pnumS_ne (b j v:Nat):pnumS b j v≠[]:=by
 rw[pnumS];split<;>simp
theorem pdec_enc (l : List Int) (hs : ∀ c ∈ l, scpB c = true) (hlen : l.length ≤ 256) : ∀ (f : Nat) (F : List Bool) (n : Int) (i b : Nat) (first : Bool) (g : Nat),
  F.length=l.length→Ahead l F n i→0≤n→i≤(placed l F).length→(placed l F).length+f=l.length→(pencL l f F n i b first).length≤g→
  pdecL g (placed l F) n i b first (pencL l f F n i b first)=(l,0)
 | 0,F,n,i,b,first,g,hF,hA,hn,hi,hf,hg=>by
  have e:placed l F=l:=by
   apply placed_all l F hF
   intro k hk
   cases hb:F.getD k true with
   | true=>rfl
   | false => have := (putD_placed hF hk hb).2; have h3 : (placed l (F.set k true)).length ≤ l.length := by
                have:∀(l:List Int) (F:List Bool),(placed l F).length≤l.length:=by
                 intro l
                 induction l with
                 | nil=>intro F;cases F<;>simp[placed]
                 | cons c l ih=>intro F;cases F with
                  | nil=>simp[placed]
                  | cons b F=>rw[placed];have:=ih F;split<;>simp<;>omega
                exact this _ _
              omega
  rw[pencL,pdecL.eq_def,e]
 | f+1,F,n,i,b,first,g,hF,hA,hn,hi,hf,hg=>by
  rw[pencL]at hg ⊢
  cases hk:leastK l F l.length with
  | none =>
   have:=placed_all l F hF (leastK_none l F _ hk)
   rw[this]at hf
   omega
  | some a =>
   have hL:=leastK_some l F _ a hk
   rw[hk]at hg
   simp only at hg ⊢
   obtain⟨hna,hA',hij⟩:=ahead_step hF hL hA
   have hj:=pcs_le l F hF hL.lt
   obtain⟨hput,hplen⟩:=putD_placed hF hL.lt hL.out
   obtain⟨hst,hv⟩:=step_back (P:=placed l F) (v:=stepV l F n i a) hna hj hij hi rfl
   have hsc:=hs (l.getD a 0) (by simp[hL.lt])
   have hsc2:0≤l.getD a 0∧l.getD a 0≤1114111:=by
    unfold scpB at hsc
    simp only[Bool.and_eq_true,decide_eq_true_eq]at hsc
    exact⟨hsc.1.1,hsc.1.2⟩
   have hvb:stepV l F n i a≤2147483647:=by
    have h1:(l.getD a 0-n)*((placed l F).length+1:Nat)≤1114111*257:=by
     have h2:((placed l F).length+1:Nat)≤(257:Int):=by omega
     calc (l.getD a 0-n)*((placed l F).length+1:Nat)≤1114111*((placed l F).length+1:Nat):=Int.mul_le_mul_of_nonneg_right (by omega) (by omega)
      _≤1114111*257:=Int.mul_le_mul_of_nonneg_left h2 (by omega)
    omega
   obtain⟨D,hD⟩:∃D,pnumS b 0 (stepV l F n i a)=D:=⟨_,rfl⟩
   have hc:cmpl b 0 D:=by rw[←hD];exact cmpl_pnumS _ _ _
   have hval:pvalS b 0 D=stepV l F n i a:=by rw[←hD];exact pvalS_pnumS _ _ _
   rw[hD]at hg ⊢
   obtain⟨R,hR⟩:∃R,pencL l f (F.set a true) (l.getD a 0) (pcs l F a+1) (adaptN (stepV l F n i a) ((placed l F).length+1) first) false=R:=⟨_,rfl⟩
   rw[hR]at hg ⊢
   have ht:=takeD_num b D 0 R hc
   have hne:D.map pdigB++R≠[]:=by
    have:D≠[]:=by rw[←hD];exact pnumS_ne _ _ _
    simp[this]
   obtain⟨c,s,hcs⟩:∃c s,D.map pdigB++R=c::s:=by
    cases hx:D.map pdigB++R with
    | nil=>exact absurd hx hne
    | cons c s=>exact⟨c,s,rfl⟩
   rw[hcs]at hg ht ⊢
   obtain⟨g',rfl⟩:∃g',g=g'+1:=⟨g-1,by simp at hg;omega⟩
   rw[pdecL,ht]
   simp only
   rw[hval,hst]
   rw[if_neg (by simp only;omega),if_neg (by rw[hsc];simp),hput,←hR]
   apply pdec_enc l hs hlen f (F.set a true) (l.getD a 0) (pcs l F a+1) _ false g' (by simpa using hF) hA' hsc2.1 (by rw[hplen];omega) (by rw[hplen];omega)
   rw[hR]
   have hl2:(D.map pdigB++R).length=(c::s).length:=by rw[hcs]
   have:D≠[]:=by rw[←hD];exact pnumS_ne _ _ _
   have:0<D.length:=List.length_pos_iff.2 this
   simp at hl2 hg
   omega
end Go.Proofs.YtblcoicaeeiojaaGreatDoor
