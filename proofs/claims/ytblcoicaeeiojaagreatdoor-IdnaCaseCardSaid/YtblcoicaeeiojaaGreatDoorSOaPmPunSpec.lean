/- Lists of spans, plain ma -/
import Derived.Test.YtblcoicaeeiojaaGreatDoorSOaHdA
set_option linter.all false
namespace Go.Proofs.YtblcoicaeeiojaaGreatDoor
abbrev Sp:=Int × Int × Int
def ends(k8:Int):List Sp->Int
 | []=>k8
 | s::r=>ends (s.2.1+1) r
def AH(k8:Int):List Sp->Bool
 | []=>true
 | s::r=>decide (k8<=s.1)&&(decide (s.1<=s.2.1)&&(decide (s.2.1<=1114111)&&AH (s.2.1+1) r))
def Ji{k8:Int}{s:Sp}{r:List Sp}:AH k8 (s::r)=true↔k8<=s.1/\s.1<=s.2.1/\s.2.1<=1114111/\AH (s.2.1+1) r=true:=by
 simp[AH]
def V8(k8:Int)(a b:List Sp):ends k8 (a++b)=ends (ends k8 a) b:=by
 induction a generalizing k8 with
 | nil=>rfl
 | cons s r c=>exact c _
def P_{k8:Int}{a b:List Sp}:AH k8 (a++b)=true↔AH k8 a=true/\AH (ends k8 a) b=true:=by
 induction a generalizing k8 with
 | nil=>simp[AH,ends]
 | cons s r c=>simp only[CH,Ji,c,ends,and_assoc]
def Akr{k8 b:Int}{l:List Sp}(h:AH b l=true)(c:k8<=b):AH k8 l=true:=by
 cases l with
 | nil=>rfl
 | cons s r=>rw[Ji]at h|-;exact⟨O,h.2⟩
def Tf{k8:Int}{l:List Sp}(h:AH k8 l=true):k8+l.length<=ends k8 l:=by
 induction l generalizing k8 with
 | nil=>simp[ends]
 | cons s r b =>
  rw[Ji]at h;have:=b h.2.2.2;simp only[ends,BB];omega
def AcF{k8:Int}{l:List Sp}(h:AH k8 l=true)(b:k8<=1114112):ends k8 l<=1114112:=by
 induction l generalizing k8 with
 | nil=>simpa[ends] using b
 | cons s r c=>rw[Ji]at h;exact c h.2.2.2 O
def Lh{k8:Int}{l:List Sp}(h:AH k8 l=true){s:Sp}(b:s∈l):k8<=s.1/\s.1<=s.2.1/\s.2.1<=1114111/\s.2.1<ends k8 l:=by
 induction l generalizing k8 with
 | nil=>cases b
 | cons t r c =>
  rw[Ji]at h;have e:=Tf h.2.2.2;rcases AX.1 b with rfl|b
  ·simp only[ends];omega
  ·have:=c h.2.2.2 b;simp only[ends];omega
def val:List Sp->Int->Option Int
 | [],_=>none
 | s::r,c=>if s.1<=c/\c<=s.2.1 then some s.2.2 else val r c
def MA(s:Sp)(r:List Sp)(c:Int):val (s::r) c=if s.1<=c/\c<=s.2.1 then some s.2.2 else val r c:=rfl
def Ys(a b:List Sp)(c:Int):val (a++b) c=(val a c).or (val b c):=by
 induction a with
 | nil=>simp[val]
 | cons s r e=>simp only[CH,MA,e];split<;>simp
def AgO{k8:Int}{l:List Sp}(h:AH k8 l=true){c:Int}(b:c<k8\/ends k8 l<=c):val l c=none:=by
 induction l generalizing k8 with
 | nil=>rfl
 | cons s r e =>
  rw[Ji]at h;have k:=Tf h.2.2.2;simp only[ends]at b;rw[MA,V O];exact e h.2.2.2 O
def Auz(p s:Sp):Bool:=decide (p.2.1+1=s.1)&&decide (p.2.2=s.2.2)
def AoA(b:List Sp)(s:Sp):List Sp:=
 match b.getLast? with
 | none=>[s]
 | some p=>if Auz p s=true then b.dropLast++[(p.1,s.2.1,p.2.2)]else b++[s]
def Aor(l:List Sp):List Sp:=l.foldl AoA []
def cnt:List Sp->Int
 | []=>0
 | s::r=>(s.2.1-s.1+1)+cnt r
abbrev Mp:=Int × List Int
structure Y where
 cat:List Sp
 ai:List Sp
 al:List Sp
 ak:List Sp
 aj:List Sp
 ag:List Sp
 an:List Sp
 ext:List Mp
 map:List Mp
 dec:List Mp
 af:List Int
 ah:List Mp
def As:List Mp->Int->List Int
 | [],_=>[]
 | m::r,c=>if m.1=c then m.2 else As r c
def AP(l:List Mp)(c:Int):Bool:=l.any λm=>decide (m.1=c)
def FN{l:List Mp}{c:Int}(h:AP l c=false):As l c=[]:=by
 induction l with
 | nil=>rfl
 | cons m r b =>
  simp only[AP,MQ,Py,L3]at h;rw[As,V h.1];exact b h.2
def Nr{l:List Mp}{c:Int}:AP l c=true↔∃m∈l,m.1=c:=by
 simp[AP]
def Ll{l:List Mp}{c:Int}(h:AP l c=true):(c,As l c)∈l:=by
 induction l with
 | nil=>simp[AP]at h
 | cons m r e =>
  by_cases b:m.1=c
  ·rw[As,N b,<-b];exact List.mem_cons_self
  ·rw[As,V b];have:AP r c=true:=by
    simp only[AP,MQ,Ic,A4]at h;exact h.resolve_left b
   exact Sf _ (e this)
def AL(k8 dI:Int):List Int->Bool
 | []=>true
 | v::r=>decide (k8<=v)&&(decide (v<=dI)&&AL (v+1) dI r)
def BT(k8:Int):List Int->Int
 | []=>k8
 | v::r=>BT (v+1) r
def Om{k8 dI v:Int}{r:List Int}:AL k8 dI (v::r)=true↔k8<=v/\v<=dI/\AL (v+1) dI r=true:=by simp[AL]
def VC{k8 dI:Int}{a b:List Int}:AL k8 dI (a++b)=true↔AL k8 dI a=true/\AL (BT k8 a) dI b=true:=by
 induction a generalizing k8 with
 | nil=>simp[AL,BT]
 | cons v r c=>simp only[CH,Om,c,BT,and_assoc]
def Aml(k8:Int)(a b:List Int):BT k8 (a++b)=BT (BT k8 a) b:=by
 induction a generalizing k8 with
 | nil=>rfl
 | cons v r c=>exact c _
def L7{k8 dI v:Int}{a:List Int}:AL k8 dI (a++[v])=true↔AL k8 dI a=true/\BT k8 a<=v/\v<=dI:=by
 rw[VC,Om];simp[AL]
def Me(k8 v:Int)(a:List Int):BT k8 (a++[v])=v+1:=by rw[Aml];rfl
def Qp{k8 dI:Int}{a:List Int}(h:AL k8 dI a=true):k8<=BT k8 a:=by
 induction a generalizing k8 with
 | nil=>exact N_ _
 | cons v r b=>rw[Om]at h;have:=b h.2.2;simp only[BT];omega
def SH{k8 dI:Int}{a:List Int}(h:AL k8 dI a=true){v:Int}(b:v∈a):k8<=v/\v<=dI/\v<BT k8 a:=by
 induction a generalizing k8 with
 | nil=>cases b
 | cons u r c =>
  rw[Om]at h;have e:=Qp h.2.2;rcases AX.1 b with rfl|b
  ·simp only[BT];omega
  ·have:=c h.2.2 b;simp only[BT];omega
def VE{k8 dI:Int}{a:List Int}(k:Nat)(h:AL k8 dI a=true):AL k8 dI (a.take k)=true:=by
 rw[<-FG k a,VC]at h;exact h.1
def Aa5{k8 dI:Int}{a:List Int}(k:Nat)(h:AL k8 dI (a.take k)=false):AL k8 dI a=false:=by
 cases b:AL k8 dI a with
 | false=>rfl
 | true=>rw[VE k b]at h;cases h
def Akh{k8 dI:Int}{a:List Int}(h:AL k8 dI a=true):a.Nodup:=by
 induction a generalizing k8 with
 | nil=>exact List.nodup_nil
 | cons v r b =>
  rw[Om]at h;rw[Vk];refine⟨λc=>?_,b h.2.2⟩;have:=(SH h.2.2 c).1;omega
def VD{k8 dI:Int}{a:List Int}(h:AL k8 dI a=true)(k:Nat)(ba:k<a.length):(∀v∈a.take k,v<a.getD k 0)/\∀v∈a.drop (k+1),a.getD k 0<v:=by
 have e:a=a.take k++(a.getD k 0::a.drop (k+1)):=by
  have:a.getD k 0=a[k]:=Gc;rw[this,<-EP ba,FG]
 rw[e]at h;rw[VC,Om]at h;refine⟨λv b=>?_,λv b=>?_⟩
 ·have:=(SH h.1 b).2.2;omega
 ·have:=(SH h.2.2.2 b).1;omega
def Cg(c:Int):Bool:=decide (44032<=c)&&decide (c<=55203)
def ED(c:Int):Bool:=decide (4352<=c)&&decide (c<=4370)||decide (4449<=c)&&decide (c<=4469)||decide (4520<=c)&&decide (c<=4546)
def GW(f t a b:Int):Bool:=decide (f<=b)&&decide (a<=t)
def Eo(f t:Int):Bool:=GW f t 0 127||(GW f t 4352 4370||(GW f t 4449 4469||(GW f t 4520 4546||(GW f t 44032 55203||GW f t 55296 57343))))
def Bz(c:Int):Bool:=Eo c c
def F_(c:Int):Bool:=decide (97<=c)&&decide (c<=122)
def GZ(c:Int):Bool:=decide (65<=c)&&decide (c<=90)
def Kf(c:Int):Bool:=decide (48<=c)&&decide (c<=57)
def F9(c:Int):Bool:=F_ c||Kf c||decide (c=45)
def NL(c:Int):Bool:=Bz c && !F9 c
def JD{c:Int}:Cg c=true↔44032<=c/\c<=55203:=by simp[Cg]
def Lq{c:Int}:ED c=true↔(4352<=c/\c<=4370)\/(4449<=c/\c<=4469)\/(4520<=c/\c<=4546):=by simp[ED,or_assoc]
def Ty{c:Int}:F_ c=true↔97<=c/\c<=122:=by simp[F_]
def Hg{c:Int}:GZ c=true↔65<=c/\c<=90:=by simp[GZ]
def S_{c:Int}:Kf c=true↔48<=c/\c<=57:=by simp[Kf]
def NB{c:Int}:F9 c=true↔(97<=c/\c<=122)\/(48<=c/\c<=57)\/c=45:=by simp[F9,Ty,S_,or_assoc]
def AfB{f t:Int}:Eo f t=true↔(f<=127/\0<=t)\/(f<=4370/\4352<=t)\/(f<=4469/\4449<=t)\/(f<=4546/\4520<=t)\/(f<=55203/\44032<=t)\/(f<=57343/\55296<=t):=by simp[Eo,GW]
def GA{c:Int}:Bz c=true↔(c<=127/\0<=c)\/(c<=4370/\4352<=c)\/(c<=4469/\4449<=c)\/(c<=4546/\4520<=c)\/(c<=55203/\44032<=c)\/(c<=57343/\55296<=c):=AfB
def Fs(c:Int):Int:=
 if F_ c||GZ c||Cg c||ED c then 1 else if Kf c then 3 else if 0<=c/\c<32\/c=127 then 8 else if c=32 then 7 else if 32<c/\c<127 then 5 else 0
def FO(c:Int):Int:=
 if F_ c||GZ c then 0 else if Kf c then 4 else if c=45 then 5 else if c=46 then 6 else if 0<=c/\c<=32\/c=127 then 11 else if 32<c/\c<127 then 8 else 0
def Gt(c:Int):Int:=if F_ c||GZ c then 3 else if 0<=c/\c<=127 then 1 else if Cg c||ED c then 9 else 0
def F4(c:Int):Int:=if F9 c||decide (c=46)||Cg c then 1 else if GZ c then 3 else 0
def Jj(T:Y)(c:Int):Int:=(val T.cat c).getD (Fs c)
def Ao(T:Y)(c:Int):Int:=(val T.ai c).getD 0
def D_(T:Y)(c:Int):Int:=(val T.al c).getD 0
def B_(T:Y)(c:Int):Int:=(val T.ak c).getD (FO c)
def Ep(T:Y)(c:Int):Int:=(val T.aj c).getD (Gt c)
def AM(T:Y)(c:Int):Int:=(val T.ag c).getD (F4 c)
def Mi(T:Y)(c:Int):Bool:=(val T.an c).isSome
def Kh(T:Y)(c:Int):Bool:=T.af.contains c
def FP(T:Y)(c:Int):List Int:=if GZ c then [c+32]else As T.map c
def AA(c:Int):Bool:=decide (0<=c)&&decide (c<=1114111) && !(decide (55296<=c)&&decide (c<=57343))
def BF(T:Y):List (List Sp):=[T.cat,T.ai,T.al,T.ak,T.aj,T.ag,T.an]
def C_(T:Y):List (List Mp):=[T.ext,T.map,T.dec,T.ah]
def GS(l:List Sp):Bool:=decide (l.length<=256)
def Gs(l:List Mp):Bool:=decide (l.length<=256)
def r1(T:Y):Bool:=(BF T).all GS&&((C_ T).all Gs&&decide (T.af.length<=256))
def BA(l:List Sp):Bool:=AH 0 l&&l.all λs=>!Eo s.1 s.2.1
def Cx(l:List Int):Bool:=AL 0 1114111 l&&l.all λc=>!Bz c
def Nw(l:List Int):Bool:=AL 0 1114111 l&&l.all λc=>!NL c
def AC(l:List Mp):List Int:=l.map (·.1)
def r2(T:Y):Bool:=(BF T).all BA&&(Cx (AC T.ext)&&(Cx (AC T.map)&&(Cx (AC T.dec)&&(Nw (AC T.ah)&&Cx T.af))))
def DB(k8 dI:Int)(l:List Sp):Bool:=l.all λs=>decide (k8<=s.2.2)&&decide (s.2.2<=dI)
def r3(T:Y):Bool:=DB 0 8 T.cat&&(DB 1 254 T.ai&&(DB 0 5 T.al&&(DB 0 11 T.ak&&(DB 0 60 T.aj&&(DB 0 4 T.ag&&DB 1 1 T.an)))))
def Uf(m:Mp):Bool:=decide (1<=m.2.length)&&decide (m.2.length<=18)&&AL 3 60 m.2
def GB(m:Mp):Bool:=decide (1<=m.2.length)&&decide (m.2.length<=18)&&m.2.all AA
def r4(T:Y):Bool:=T.ext.all Uf&&(T.map.all GB&&(T.dec.all GB&&T.ah.all GB))
def D7(v:Int):List Sp->Int
 | []=>0
 | s::r=>(if s.2.2=v then s.2.1-s.1+1 else 0)+D7 v r
def Hu(T:Y)(c:Int):Bool:=decide (AM T c=1)||decide (AM T c=4)
def Gw(T:Y)(m:Mp):Bool:=decide (AM T m.1=3)&&m.2.all (Hu T)
def r5(T:Y):Bool:=T.map.all (Gw T)&&decide (D7 3 T.ag=T.map.length)
def D9(c:Int):Bool:=decide (c=46)||(Cg c||ED c)
def EH(m:Mp):Bool:=decide (m.2.length<=2)&&m.2.all λc=>!D9 c
def sz(l:List Mp):Nat->Int->Nat
 | 0,c=>if As l c=[]then 1 else 19
 | k+1,c=>if As l c=[]then 1 else min 19 ((As l c).map (sz l k)).sum
def EC(T:Y)(l:List Int)(b:List Int):Bool:=l.any λc=>b.contains (B_ T c)
def DV(T:Y):Int->List Int->Int
 | k,[]=>k
 | k,c::r=>DV T (if B_ T c=10 then k else B_ T c) r
def Mw(T:Y)(l:List Int)(f z:Int):Int:=
 if f=1\/f=2 then
  if EC T l [0,11]=true then 2
  else if z≠1/\z≠2/\z≠4/\z≠3 then 3
  else if EC T l [4]=true/\EC T l [3]=true then 4
  else 0
 else if f=0 then
  if EC T l [1,2,3,11]=true then 5
  else if z≠0/\z≠4 then 6
  else 0
 else 1
def Dd(T:Y)(l:List Int):Int:=if l=[]then 0 else Mw T l (B_ T (l.getD 0 0)) (DV T (-1) l)
def EF(T:Y)(l:List Int):Bool:=EC T l [1,2,3]
theorem WN(T:Y):∀(a b:List Int) (k:Int),DV T k (a++b)=DV T (DV T k a) b
 | [],b,k=>rfl
 | c::r,b,k=>by rw[CH,DV,DV,WN T r b]
def Ata(T:Y)(l:List Int):0<=Dd T l/\Dd T l<=6:=by
 unfold Dd Mw
 repeat' split
 all_goals omega
def EQ(c:Int):Bool:=decide (1632<=c)&&decide (c<=1641)
def EB(c:Int):Bool:=decide (1776<=c)&&decide (c<=1785)
def DN(T:Y)(c:Int):Bool:=decide (Ep T c=7)||decide (Ep T c=8)||decide (Ep T c=6)
def QP(l:List Int)(i:Nat):Int:=if i=0 then -1 else l.getD (i-1) (-1)
def QJ(l:List Int)(i:Nat):Int:=l.getD (i+1) (-1)
def Gq(T:Y)(l:List Int)(i:Nat):Bool:=
 let c:=l.getD i 0
 if c=183 then decide (QP l i=108)&&decide (QJ l i=108)
 else if c=885 then decide (i+1<l.length)&&decide (Ep T (l.getD (i+1) 0)=4)
 else if c=1523\/c=1524 then decide (0<i)&&decide (Ep T (l.getD (i-1) 0)=11)
 else if c=12539 then l.any (DN T)
 else if EQ c=true then !l.any EB
 else if EB c=true then !l.any EQ
 else true
def Li(T:Y)(l:List Int):Nat->Nat->Option Nat
 | 0,_=>none
 | n+1,k=>if Gq T l k=false then some k else Li T l n (k+1)
theorem Abe(T:Y)(l:List Int):∀(n k:Nat),Li T l n k=none↔∀j,k<=j->j<k+n->Gq T l j=true
 | 0,k=>by simp[Li];intro j b be;omega
 | n+1,k=>by
  rw[Li];cases h:Gq T l k with
  | false =>
   exact AyQ
  | true =>
   rw[V J,Abe T l n (k+1)];exact AAo
def Hv(T:Y)(c:Int):Bool:=!decide (D_ T c=5)
def Ed(T:Y)(l:List Int):Nat->Option Nat
 | 0=>none
 | i+1=>if Hv T (l.getD i 0)=true then some i else Ed T l i
def FT(T:Y):Nat->List Int->Option Nat
 | _,[]=>none
 | k,c::r=>if Hv T c=true then some k else FT T (k+1) r
def Kw(T:Y)(l:List Int)(i:Nat):Option Nat:=FT T (i+1) (l.drop (i+1))
def EE:Option Nat->Int
 | none => -1
 | some k=>k
def Tq(T:Y)(c:Int):Bool:=decide (D_ T c=1)||decide (D_ T c=3)
def WD(T:Y)(c:Int):Bool:=decide (D_ T c=2)||decide (D_ T c=3)
def IK(T:Y)(l:List Int)(i:Nat):Bool:=decide (0<i)&&decide (Ao T (l.getD (i-1) 0)=9)
def Fl(T:Y)(l:List Int)(i:Nat):Bool:=match Ed T l i,Kw T l i with
 | some a,some b=>Tq T (l.getD a 0)&&WD T (l.getD b 0)
 | _,_=>false
def F'(T:Y)(l:List Int)(i:Nat):Bool:=
 if l.getD i 0≠8204/\l.getD i 0≠8205 then true else IK T l i||(decide (l.getD i 0=8204)&&Fl T l i)
def IL(T:Y)(l:List Int):Nat->Nat->Option Nat
 | 0,_=>none
 | n+1,k=>if F' T l k=false then some k else IL T l n (k+1)
theorem WS(T:Y)(l:List Int):∀(i a:Nat),Ed T l i=some a↔(a<i/\Hv T (l.getD a 0)=true/\∀j,a<j->j<i->Hv T (l.getD j 0)=false)
 | 0,a=>by simp[Ed]
 | i+1,a=>by
  rw[Ed];cases h:Hv T (l.getD i 0) with
  | true =>
   rw[N rfl];constructor
   ·intro e;injection e with e;subst e;exact⟨O,h,λj k b=>O⟩
   ·intro ⟨k,b,c⟩;by_cases e:a=i
    ·rw[e]
    ·have:=c i O O;rw[h]at this;cases this
  | false =>
   rw[V J,WS T l i a];constructor
   ·intro ⟨k,b,c⟩;refine⟨O,b,λj m q=>?_⟩;by_cases e:j=i
    ·rw[e];exact h
    ·exact c j m O
   ·intro ⟨k,b,c⟩;have s:a≠i:=λe=>by rw[e,h]at b;cases b
    exact⟨O,b,λj m q=>c j m O⟩
theorem AfL(T:Y):∀(r:List Int) (k b:Nat),FT T k r=some b↔(k<=b/\b<k+r.length/\Hv T (r.getD (b-k) 0)=true/\∀j,j<b-k->Hv T (r.getD j 0)=false)
 | [],k,b=>by
  rw[FT];constructor
  ·intro e;cases e
  ·intro ⟨A,q,_⟩;simp at q;omega
 | c::r,k,b=>by
  rw[FT];cases h:Hv T c with
  | true =>
   rw[N rfl];constructor
   ·intro e;injection e with e;subst e;exact⟨Ac _,J,Co,λj C=>O⟩
   ·intro ⟨A,q,m,s⟩;by_cases e:b=k
    ·rw[e]
    ·have:=s 0 O;rw[DI,h]at this;cases this
  | false =>
   rw[V J,AfL T r (k+1) b];constructor
   ·intro ⟨A,q,m,s⟩;refine⟨O,Ae,?_,λj C=>?_⟩
    ·rw[show b-k=(b-(k+1))+1 by omega,CS];exact m
    ·cases j with
     | zero=>rw[DI];exact h
     | succ j=>rw[CS];exact s j O
   ·intro ⟨A,q,m,s⟩;have F:b≠k:=λe=>by rw[e,MU,DI,h]at m;cases m
    rw[show b-k=(b-(k+1))+1 by omega,CS]at m;refine⟨O,by simp at q;omega,m,λj C=>?_⟩;have:=s (j+1) O;rwa[CS]at this
def Anh(l:List Int)(k j:Nat):(l.drop k).getD j 0=l.getD (k+j) 0:=by simp[List.getD]
def AfK(T:Y)(l:List Int)(i b:Nat):Kw T l i=some b↔(i<b/\b<l.length/\Hv T (l.getD b 0)=true/\∀j,i<j->j<b->Hv T (l.getD j 0)=false):=by
 unfold Kw;rw[AfL];simp only[Anh,GK];constructor
 ·intro ⟨h,k,e,c⟩;refine⟨O,O,by rwa[show i+1+(b-(i+1))=b by omega]at e,λj m q=>?_⟩;have:=c (j-(i+1)) O;rwa[show i+1+(j-(i+1))=j by omega]at this
 ·intro ⟨h,k,e,c⟩;refine⟨O,O,by rwa[show i+1+(b-(i+1))=b by omega],λj s=>?_⟩;exact c (i+1+j) O O
theorem Abg(T:Y)(l:List Int):∀(n k:Nat),IL T l n k=none↔∀j,k<=j->j<k+n->F' T l j=true
 | 0,k=>by simp[IL];intro j b be;omega
 | n+1,k=>by
  rw[IL];cases h:F' T l k with
  | false =>
   exact AyQ
  | true =>
   rw[V J,Abg T l n (k+1)];exact AAo
def Mz{l:List Mp}{c:Int}(k:Nat)(h:As l c=[]):sz l k c=1:=by
 cases k<;>simp[sz,h]
def O7{l:List Mp}{c:Int}(k:Nat)(h:As l c≠[]):sz l (k+1) c=min 19 ((As l c).map (sz l k)).sum:=by
 rw[sz,V h]
def AgA{b:Type}(f:b->Nat)(l:List b)(x:b)(h:x∈l):f x<=(l.map f).sum:=by
 induction l with
 | nil=>cases h
 | cons y r c =>
  rw[BH,KX];rcases AX.1 h with rfl|h
  ·omega
  ·have:=c h;omega
def Agy{b:Type}(f:b->Nat)(l:List b)(h:∀x∈l,1<=f x):l.length<=(l.map f).sum:=by
 induction l with
 | nil=>simp
 | cons y r c =>
  have e:=h y J;have k:=c λx b3=>h x N3;simp only[BH,KX,BB];omega
def Aud(l:List Mp)(k:Nat)(c:Int):1<=sz l k c/\sz l k c<=19:=by
 induction k generalizing c with
 | zero=>simp only[sz];split<;>omega
 | succ k b =>
  by_cases h:As l c=[]
  ·rw[Mz _ h];omega
  ·rw[O7 _ h];have m:=Agy (sz l k) (As l c) λx _=>(b x).1;have q:1<=(As l c).length:=by
    cases e:As l c with
    | nil=>exact absurd e h
    | cons _ _=>simp
   omega
def Dp(l:List Mp):Nat->Int->Prop
 | 0,c=>As l c=[]
 | k+1,c=>∀x∈As l c,Dp l k x
theorem Dp.nil{l:List Mp}{c:Int}(k:Nat)(h:As l c=[]):Dp l k c:=by
 cases k with
 | zero=>exact h
 | succ k=>intro x b;rw[h]at b;cases b
theorem Dp.succ{l:List Mp}{k:Nat}{c:Int}(h:Dp l k c):Dp l (k+1) c:=by
 induction k generalizing c with
 | zero=>exact Dp.nil _ h
 | succ k b=>intro x e;exact b (h x e)
theorem Dp.le{l:List Mp}{k j:Nat}{c:Int}(h:Dp l k c)(b:k<=j):Dp l j c:=by
 obtain⟨d,rfl⟩:∃d,j=k+d:=⟨j-k,O⟩;clear b
 induction d with
 | zero=>exact h
 | succ d e=>exact e.succ
def Aue{l:List Mp}{k:Nat}{c:Int}(h:Dp l k c):sz l (k+1) c=sz l k c:=by
 induction k generalizing c with
 | zero=>rw[Mz _ h,Mz _ h]
 | succ k e =>
  by_cases b:As l c=[]
  ·rw[Mz _ b,Mz _ b]
  ·rw[O7 _ b,O7 _ b];congr 2;exact Jc λx m=>e (h x m)
inductive Gm (l:List Mp):Int->Int->Prop
 | one {c d:Int}:d∈As l c->Gm l c d
 | more {c d e:Int}:d∈As l c->Gm l d e->Gm l c e
theorem Gm.snoc{l:List Mp}{c d e:Int}(h:Gm l c d)(k:e∈As l d):Gm l c e:=by
 induction h with
 | one h=>exact .more h (.one k)
 | more h _ b=>exact .more h (b k)
theorem Gm.first{l:List Mp}{c:Int}(h:Gm l c c):∃d∈As l c,Gm l d d:=by
 cases h with
 | one h=>exact⟨c,h,.one h⟩
 | more h k=>exact⟨_,h,k.snoc h⟩
def NF{b:Type}{l:List b}{x:b}(h:x∈l):l≠[]:=by
 rintro rfl;cases h
def Yn{l:List Mp}{k:Nat}{c d:Int}(h:d∈As l c)(b:sz l k d=19):sz l (k+1) c=19:=by
 rw[O7 _ (NF h)];have:=AgA (sz l k) _ d h;omega
def Yo{l:List Mp}(k:Nat){c:Int}(h:Gm l c c):sz l k c=19:=by
 induction k generalizing c with
 | zero =>
  obtain⟨d,b,_⟩:=h.first;rw[sz,V (NF b)]
 | succ k e =>
  obtain⟨d,b,m⟩:=h.first;exact Yn b (e m)
def Auf{l:List Mp}{c d:Int}(h:Gm l c d)(b:Gm l d d)(k:Nat):sz l k c=19:=by
 induction h generalizing k with
 | one h =>
  cases k with
  | zero=>rw[sz,V (NF h)]
  | succ k=>exact Yn h (Yo k b)
 | more h _ e =>
  cases k with
  | zero=>rw[sz,V (NF h)]
  | succ k=>exact Yn h (e b k)
def SQ(l:List Mp):Int->List Int->Prop
 | _,[]=>True
 | c,d::r=>d∈As l c/\SQ l d r
def Ak2{l:List Mp}(k:Nat)(c:Int)(h:¬Dp l k c):∃r,r.length=k/\SQ l c r/\∀x∈c::r,As l x≠[]:=by
 induction k generalizing c with
 | zero=>exact⟨[],rfl,trivial,by intro x b;rw[Ch]at b;subst b;exact h⟩
 | succ k m =>
  obtain⟨x,b⟩:=Classical.not_forall.1 h;obtain⟨b,q⟩:=Classical.not_imp.1 b;obtain⟨r,s,A,C⟩:=m x q;refine⟨x::r,by simp[s],⟨b,A⟩,?_⟩;intro y e;rcases AX.1 e with rfl|e
  ·exact NF b
  ·exact C y e
def ArT{l:List Mp}(c:Int)(r:List Int)(h:SQ l c r):∀x∈r,Gm l c x:=by
 induction r generalizing c with
 | nil=>intro x b;cases b
 | cons d r e =>
  intro x b;rcases AX.1 b with rfl|b
  ·exact .one h.1
  ·exact .more h.1 (e d h.2 x b)
def Asi{l:List Mp}(c:Int)(r:List Int)(h:SQ l c r)(k:¬(c::r).Nodup):∃x,(x=c\/Gm l c x)/\Gm l x x:=by
 induction r generalizing c with
 | nil=>exact absurd J k
 | cons d r s =>
  by_cases m:c∈d::r
  ·exact⟨c,.inl rfl,ArT c _ h c m⟩
  ·have b:¬(d::r).Nodup:=λb=>k (Vk.2 ⟨m,b⟩);obtain⟨x,e,q⟩:=s d h.2 b;rcases e with rfl|e
   ·exact⟨x,.inr (.one h.1),q⟩
   ·exact⟨x,.inr (.more h.1 e),q⟩
def Ari(a m:List Int)(b:a.Nodup)(h:∀x∈a,x∈m):a.length<=m.length:=by
 induction a generalizing m with
 | nil=>simp
 | cons x r k =>
  rw[Vk]at b;have c:=h x J;have:=k (m.erase x) b.2 λy b0=>(List.mem_erase_of_ne (λe=>b.1 (by rw[<-e];exact b0))).2 (h y Hz);rw[List.length_erase_of_mem c]at this;have:=List.length_pos_of_mem c;simp only[BB];omega
def Wu{l:List Mp}{c:Int}(h:As l c≠[]):c∈AC l:=by
 cases b:AP l c with
 | false=>exact absurd (FN b) h
 | true=>obtain⟨m,e,rfl⟩:=Nr.1 b;exact List.mem_map_of_mem e
def Ym{l:List Mp}{c:Int}(C:l.length<=256)(h:¬Dp l 256 c)(k:Nat):sz l k c=19:=by
 obtain⟨r,q,s,A⟩:=Ak2 256 c h;have e:¬(c::r).Nodup:=by
  intro e;have:=Ari (c::r) (AC l) e λx b=>Wu (A x b);simp only[BB,q,AC,C6]at this;omega
 obtain⟨x,b,m⟩:=Asi c r s e;rcases b with rfl|b
 ·exact Yo k m
 ·exact Auf b m k
def A'(l:List Mp)(c:Int):Nat:=sz l 256 c
def Rd(l:List Mp)(c:Int):1<=A' l c/\A' l c<=19:=Aud l 256 c
def Re{l:List Mp}{c:Int}(h:As l c=[]):A' l c=1:=Mz _ h
def X_{l:List Mp}{c:Int}(e:l.length<=256)(h:As l c≠[]):A' l c=min 19 ((As l c).map (A' l)).sum:=by
 rw[show (A' l:Int->Nat)=sz l 256 from rfl,<-O7 256 h];by_cases b:Dp l 256 c
 ·exact(Aue b).symm
 ·exact(Ym e b _).trans (Ym e b _).symm
def X9{l:List Mp}{c:Int}(b:l.length<=256)(h:A' l c<=18):Dp l 256 c:=by
 apply JQ;intro e;have:=Ym b e 256;unfold A' at h;omega
def AtG{l:List Mp}{c:Int}(h:Gm l c c):A' l c=19:=Yo 256 h
def Ek(l:List Mp):Nat->Int->List Int
 | 0,c=>[c]
 | k+1,c=>if As l c=[]then [c] else(As l c).flatMap (Ek l k)
def F6(l:List Mp)(c:Int):List Int:=Ek l 256 c
def Jo{l:List Mp}{c:Int}(k:Nat)(h:As l c=[]):Ek l k c=[c]:=by
 cases k<;>simp[Ek,h]
def Ana{l:List Mp}{k:Nat}{c:Int}(h:Dp l k c):Ek l (k+1) c=Ek l k c:=by
 induction k generalizing c with
 | zero=>rw[Jo _ h,Jo _ h]
 | succ k e =>
  by_cases b:As l c=[]
  ·rw[Jo _ b,Jo _ b]
  ·rw[Ek,V b]
   conv=>rhs;rw[Ek,V b]
   rw[Vf,Vf];congr 1;exact Jc λx m=>e (h x m)
def Qs{l:List Mp}{c:Int}(h:As l c=[]):F6 l c=[c]:=Jo _ h
def AcR{l:List Mp}{c:Int}(b:Dp l 256 c)(h:As l c≠[]):F6 l c=(As l c).flatMap (F6 l):=by
 unfold F6;rw[<-Ana b,Ek,V h]
def ET(l:List Mp)(xs:List Int):List Int:=xs.flatMap λx=>if As l x=[]then [x]else As l x
def ES(l:List Mp)(xs:List Int):Bool:=xs.all λx=>decide (As l x=[])
def G9(l:List Mp):Nat->List Int->Option (List Int)
 | 0,_=>none
 | r+1,xs=>if ES l xs=true then some xs else if 18<(ET l xs).length then none else G9 l r (ET l xs)
def AmB(l:List Mp)(a:List Int)(x:Int):ET l (a++[x])=ET l a++if As l x=[]then [x]else As l x:=by simp[ET]
def Amj(l:List Mp)(a:List Int)(x:Int):ES l (a++[x])=(ES l a&&decide (As l x=[])):=by simp[ES]
def At9(l:List Mp)(xs:List Int):xs.length<=(xs.map (A' l)).sum:=Agy _ _ λx _=>(Rd l x).1
def Agw{l:List Mp}(c:l.length<=256)(xs:List Int):min 19 ((ET l xs).map (A' l)).sum=min 19 (xs.map (A' l)).sum:=by
 induction xs with
 | nil=>rfl
 | cons x r h =>
  have e:ET l (x::r)=(if As l x=[]then [x]else As l x)++ET l r:=by simp[ET]
  rw[e,FY,List.sum_append,BH,KX];by_cases b:As l x=[]
  ·rw[N b];simp only[BH,Eg,KX,List.sum_nil];omega
  ·rw[V b,X_ c b];omega
def Aj3{l:List Mp}(xs:List Int)(h:ES l xs=true):(xs.map (A' l)).sum=xs.length:=by
 induction xs with
 | nil=>rfl
 | cons x r b =>
  simp only[ES,DQ,AJ,A4]at h;rw[BH,KX,Re h.1,b (by simpa[ES] using h.2),BB];omega
def Anf{l:List Mp}(c:l.length<=256)(r:Nat)(xs:List Int)(h:19<=(xs.map (A' l)).sum)(k:xs.length<=18):G9 l r xs=none:=by
 induction r generalizing xs with
 | zero=>rfl
 | succ r e =>
  rw[G9];by_cases b:ES l xs=true
  ·have:=Aj3 xs b;omega
  ·rw[V b];split
   ·rfl
   ·rename_i m;have:=Agw c xs;exact e _ O O
def AcO{l:List Mp}(k:Nat)(xs:List Int)(h:ES l xs=true):xs.flatMap (Ek l k)=xs:=by
 induction xs with
 | nil=>rfl
 | cons x r b =>
  simp only[ES,DQ,AJ,A4]at h;rw[JT,Jo _ h.1,b (by simpa[ES] using h.2)];rfl
def Am2(l:List Mp)(k:Nat)(xs:List Int):(ET l xs).flatMap (Ek l k)=xs.flatMap (Ek l (k+1)):=by
 induction xs with
 | nil=>rfl
 | cons x r c =>
  have e:ET l (x::r)=(if As l x=[]then [x]else As l x)++ET l r:=by simp[ET]
  rw[e,Aam,c,JT];congr 1;by_cases b:As l x=[]
  ·rw[N b,Jo _ b];simp[Jo k b]
  ·rw[V b,Ek,V b]
def Ang{l:List Mp}(q:l.length<=256)(r:Nat)(xs:List Int)(h:(xs.map (A' l)).sum<=18)(m:∀x∈xs,Dp l r x):G9 l (r+1) xs=some (xs.flatMap (Ek l r)):=by
 induction r generalizing xs with
 | zero =>
  have c:ES l xs=true:=by
   rw[ES,AR];intro x e;rw[A4];exact m x e
  rw[G9,N c,AcO _ _ c]
 | succ r s =>
  rw[G9];by_cases c:ES l xs=true
  ·rw[N c,AcO _ _ c]
  ·have A:=Agw q xs;have C:=At9 l (ET l xs);rw[V c,V O,s (ET l xs) O ?_,Am2];intro y b;simp only[ET,Vj]at b;obtain⟨x,e,b⟩:=b;by_cases k:As l x=[]
   ·rw[N k,Ch]at b;subst b;exact Dp.nil _ k
   ·rw[V k]at b;exact m x e y b
def Wl{l:List Mp}(b:l.length<=256)(c:Int):G9 l 257 [c]=if A' l c<=18 then some (F6 l c)else none:=by
 by_cases h:A' l c<=18
 ·rw[N h,Ang b 256 [c] Co (by intro x e;rw[Ch]at e;subst e;exact X9 b h)];simp[F6]
 ·have:=Rd l c;rw[V h,Anf b 257 [c] Ae J]
def Anb(l:List Mp)(k:Nat)(c:Int):Ek l k c≠[]:=by
 induction k generalizing c with
 | zero=>simp[Ek]
 | succ k b =>
  by_cases h:As l c=[]
  ·rw[Jo _ h];simp
  ·rw[Ek,V h];cases e:As l c with
   | nil=>exact absurd e h
   | cons x r=>simp[b x]
def Is(l:List Mp)(c:Int):Int:=(F6 l c).getLastD 0
def AdB{l:List Mp}{c:Int}(h:As l c=[]):Is l c=c:=by rw[Is,Qs h];rfl
def AdC{l:List Mp}{c a b:Int}(e:Dp l 256 c)(h:As l c=[a,b])(k:As l b=[]):Is l c=b:=by
 rw[Is,AcR e (by rw[h];simp),h];simp only[JT,PK,E8,Qs k];simp[Aao]
def Jl(T:Y):Nat->Int->Bool
 | 0,_=>false
 | k+1,c=>match As T.dec c with
  | [a,b] => !Kh T c&&(decide (Ao T c=0)&&(decide (Ao T a=0)&&(!AP T.dec b&&((!AP T.dec a||Jl T k a)&&(decide (Ao T b=0)||decide (Ao T (Is T.dec a)<=Ao T b))))))
  | _=>false
def AV(T:Y)(c:Int):Bool:=Jl T 257 c
def Alm{T:Y}{k:Nat}{c:Int}(h:Dp T.dec k c):Jl T (k+2) c=Jl T (k+1) c:=by
 induction k generalizing c with
 | zero =>
  have e:As T.dec c=[]:=h;rw[Jl,Jl,e]
 | succ k m =>
  rw[Jl]
  conv=>rhs;rw[Jl]
  cases cj:As T.dec c with
  | nil=>rfl
  | cons a r =>
   cases r with
   | nil=>rfl
   | cons b r =>
    cases r with
    | nil=>simp only;rw[m (h a Hy)]
    | cons _ _=>rfl
def Qg{T:Y}{c a b:Int}(h:Dp T.dec 256 c)(e:As T.dec c=[a,b]):AV T c=(!Kh T c&&(decide (Ao T c=0)&&(decide (Ao T a=0)&&(!AP T.dec b&&((!AP T.dec a||AV T a)&&(decide (Ao T b=0)||decide (Ao T (Is T.dec a)<=Ao T b))))))):=by
 have:=Alm h;unfold AV;rw[<-this,Jl,e]
def Mb{T:Y}{c:Int}(h:(As T.dec c).length≠2):AV T c=false:=by
 unfold AV;rw[Jl];cases e:As T.dec c with
 | nil=>rfl
 | cons a r =>
  cases r with
  | nil=>rfl
  | cons b r =>
   cases r with
   | nil=>rw[e]at h;simp at h
   | cons _ _=>rfl
def r6(T:Y):Bool:=T.dec.all EH&&T.dec.all λm=>decide (A' T.dec m.1<=18)
def r7(T:Y):Bool:=T.af.all (AP T.dec)
def Ck(T:Y)(l:List Mp):List (List Int):=(l.filter λm=>AV T m.1).map (·.2)
def r8(T:Y):Bool:=decide (Ck T T.dec).Nodup
def plain(T:Y)(c:Int):Bool:=!AP T.dec c && !Mi T c
def Ju(T:Y)(m:Mp):Bool:=plain T m.1&&m.2.all λc=>!AP T.ah c&&(!Cg c&&plain T c)
def r9(T:Y):Bool:=T.ah.all (Ju T)
def Av(T:Y):Int:=
 if r1 T=false then 1 else if r2 T=false then 2 else if r3 T=false then 3 else if r4 T=false then 4 else if r5 T=false then 5 else if r6 T=false then 6 else if r7 T=false then 7 else if r8 T=false then 8 else if r9 T=false then 9 else 0
def Il(d k:Nat):Nat:=if h:455<d then Il (d/35) (k+36)else k+36*d/(d+38)
termination_by d
decreasing_by omega
def Fi(delta b:Nat)(first:Bool):Nat:=Il ((if first=true then delta/700 else delta/2)+(if first=true then delta/700 else delta/2)/b) 0
theorem AaO(d k:Nat):Il d k<=k+d+36:=by
 rw[Il];split
 ·rename_i h;have:=AaO (d/35) (k+36);omega
 ·have:36*d/(d+38)<=36:=by
   apply Nat.le_of_lt_succ;rw[Sm O];omega
  omega
termination_by d
decreasing_by omega
def BV(b j:Nat):Nat:=min 26 (max 1 (36*(j+1)-b))
def Ix(b j:Nat):1<=BV b j/\BV b j<=26:=by unfold BV;omega
def Dn(b j v:Nat):List Nat:=
 if h:v<BV b j then [v] else(BV b j+(v-BV b j)%(36-BV b j))::Dn b (j+1) ((v-BV b j)/(36-BV b j))
termination_by v
decreasing_by
 have:=Ix b j;have:=Je (v-BV b j) (36-BV b j);omega
def DA(b:Nat):Nat->List Nat->Nat
 | _,[]=>0
 | j,d::r=>d+(36-BV b j)*DA b (j+1) r
def Io(b:Nat):Nat->List Nat->Prop
 | _,[]=>False
 | j,d::r=>if d<BV b j then r=[]else d<36/\Io b (j+1) r
theorem AbS(b j v:Nat):Io b j (Dn b j v):=by
 rw[Dn];split
 ·rename_i h;simp[Io,h]
 ·rename_i h;have e:=Ix b j;have c:=AbS b (j+1) ((v-BV b j)/(36-BV b j));have k:=Od (v-BV b j) (show 36-BV b j>0 by omega);rw[Io,V O];exact⟨O,c⟩
termination_by v
decreasing_by
 have:=Je (v-BV b j) (36-BV b j);omega
theorem AbR(b:Nat):∀(D:List Nat) (j:Nat),Io b j D->∀d∈D,d<36
 | [],_,h=>h.elim
 | d::r,j,h=>by
  have e:=Ix b j;rw[Io]at h;intro x c;split at h
  ·rename_i k;subst h;simp at c;omega
  ·rcases AX.1 c with rfl|c
   ·exact h.1
   ·exact AbR b r (j+1) h.2 x c
def CE(v:Nat):Int:=if v<26 then 97+(v:Int)else 22+(v:Int)
def Fp(c:Int):Option Nat:=
 if 97<=c/\c<=122 then some (c-97).toNat else if 65<=c/\c<=90 then some (c-65).toNat else if 48<=c/\c<=57 then some (c-22).toNat else none
def Ard{v:Nat}(h:v<36):(97<=CE v/\CE v<=122)\/(48<=CE v/\CE v<=57):=by unfold CE;split<;>omega
def Qm{c:Int}{d:Nat}(h:Fp c=some d):d<36:=by
 unfold Fp at h;split at h
 ·injection h;omega
 ·split at h
  ·injection h;omega
  ·split at h
   ·injection h;omega
   ·exact Ds
def AeO{c:Int}{d:Nat}(h:Fp c=some d)(b:¬(65<=c/\c<=90)):CE d=c:=by
 unfold Fp at h;split at h
 ·injection h;unfold CE;rw[N O];omega
 ·split at h
  ·injection h;unfold CE;rw[V O];omega
  ·exact Ds
def Gb(b:Nat):Nat->List Int->Option (List Nat × List Int)
 | _,[]=>none
 | j,c::r=>match Fp c with
  | none=>none
  | some d=>if d<BV b j then some ([d],r)else match Gb b (j+1) r with
   | none=>none
   | some (D,q)=>some (d::D,q)
theorem Yp(b: Nat): ∀ (s: List Int) (j: Nat) (D: List Nat) (r: List Int), Gb b j s = some (D, r)->
  Io b j D/\((∀c∈s,¬(65<=c/\c<=90))->s=D.map CE++r)/\∃A,s=A++r/\A≠[]
 | [],_,_,_,h=>Ds
 | c::s,j,D,r,h=>by
  rw[Gb]at h;split at h
  ·exact Ds
  ·rename_i d k;have G:=Qm k;split at h
   ·rename_i m;injection h with h;injection h with C F;subst C F;refine⟨by rw[Io,N m],λe=>?_,[c],rfl,J⟩;rw[BH,AeO k (e c J)];rfl
   ·rename_i m;split at h
    ·exact Ds
    ·rename_i L q ac;injection h with h;injection h with C F;subst C F;obtain⟨ad,am,A,a9,a'⟩:=Yp b s (j+1) L q ac;refine⟨by rw[Io,V m];exact⟨G,ad⟩,λe=>?_,c::A,by rw[a9];rfl,J⟩;rw[BH,AeO k (e c J),CH,<-am (λx b3=>e x N3)]
def AW:List Int->List Bool->List Int
 | c::l,b::F=>if b=true then c::AW l F else AW l F
 | _,_=>[]
theorem OP: ∀ (l: List Int) (F: List Bool) (a: Nat), F.length = l.length->a < l.length->
  AW l F=AW (l.take a) (F.take a)++((if F.getD a true=true then [l.getD a 0]else [])++AW (l.drop (a+1)) (F.drop (a+1)))
 | [],_,_,_,h=>E5
 | c::l,[],_,h,_=>E5
 | c::l,b::F,0,h,_=>by
  simp only[L0,AW,Cv,DI,BY,List.drop_succ_cons,List.drop_zero];cases b<;>simp
 | c::l,b::F,a+1,h,be=>by
  have e:=OP l F a Co N1;simp only[Jd,AW,CS,List.drop_succ_cons];cases b<;>simp[e]
theorem XF:∀(l:List Int) (F:List Bool),F.length=l.length->(∀i,i<l.length->F.getD i true=true)->AW l F=l
 | [],_,_,_=>by cases ‹List Bool›<;>rfl
 | c::l,[],h,_=>E5
 | c::l,b::F,h,e=>by
  have k:=e 0 J;simp at k;rw[AW,N k,XF l F Co (λi dI=>by have:=e (i+1) Iz;simpa using this)]
def Bv(l:List Int)(F:List Bool)(a:Nat):Nat:=(AW (l.take a) (F.take a)).length
def AeM(l:List Int)(F:List Bool)(hF:F.length=l.length){a k:Nat}(h:a<=k)(b:k<=l.length):Bv l F a<=Bv l F k:=by
 by_cases e:a=k
 ·rw[e];exact Ac _
 unfold Bv;have:=OP (l.take k) (F.take k) a RF Ae;rw[PQ,PQ,K_ h]at this;rw[this];simp
def TT(l:List Int)(F:List Bool)(hF:F.length=l.length){a:Nat}(b:a<l.length):Bv l F a<=(AW l F).length:=by
 have:=OP l F a hF b;unfold Bv;rw[this];simp
def OA(F:List Bool)(a:Nat)(b:Bool)(h:a<F.length):(F.set a b).getD a true=b:=Ps
def No(F:List Bool)(a k:Nat)(b:Bool)(h:a≠k):(F.set a b).getD k true=F.getD k true:=Ps
def Aul(F:List Bool){a k:Nat}(b:Bool)(h:k<=a):(F.set a b).take k=F.take k:=by
 apply R_;intro i;by_cases dI:i<k
 ·simp[Eu,dI,LY (show a≠i by omega)]
 ·simp[Eu,dI]
def Al9(F:List Bool){a k:Nat}(b:Bool)(h:a<k):(F.set a b).drop k=F.drop k:=by
 apply R_;intro i;simp[MS,LY (show a≠k+i by omega)]
def Auk(F:List Bool){a k:Nat}(b:Bool)(h:a<k):(F.set a b).take k=(F.take k).set a b:=by
 apply R_;intro i;by_cases e:a=i
 ·subst e;by_cases c:a<F.length
  ·rw[Eu,N h,Vh c,Vh Ae]
  ·rw[MT Ae,MT Ae]
 ·rw[LY e];simp[Eu,LY e]
def AeX(l:List Int)(F:List Bool)(a:Nat)(b:Bool)(hF:F.length=l.length)(c:a<l.length):AW l (F.set a b)=AW (l.take a) (F.take a)++((if b=true then [l.getD a 0]else [])++AW (l.drop (a+1)) (F.drop (a+1))):=by
 rw[OP l (F.set a b) a UM c,OA _ _ _ O,Aul F b (Ac a),Al9 F b (Nat.lt_succ_self a)]
def Arb(l:List Int)(F:List Bool)(a k:Nat)(b:Bool)(hF:F.length=l.length)(c:a<l.length)(e:k<=l.length)(h:a<k):Bv l (F.set a b) k=Bv l F a+((if b=true then 1 else 0)+(AW ((l.take k).drop (a+1)) ((F.take k).drop (a+1))).length):=by
 unfold Bv;rw[Auk F b h,AeX (l.take k) (F.take k) a b RF Ae,PQ,PQ,K_ O];cases b<;>simp<;>omega
def Dy(l:List Int)(F:List Bool):Nat->Option Nat
 | 0=>none
 | k+1=>match Dy l F k with
  | none=>if F.getD k true=false then some k else none
  | some a=>if F.getD k true=false/\l.getD k 0<l.getD a 0 then some k else some a
theorem QB(l:List Int)(F:List Bool):∀k,Dy l F k=none->∀i,i<k->F.getD i true=true
 | 0,_,i,dI=>O
 | k+1,h,i,dI=>by
  rw[Dy]at h;cases b:Dy l F k with
  | none =>
   rw[b]at h;simp only at h;split at h
   ·exact Ds
   ·rename_i c;by_cases e:i=k
    ·rw[e];simpa using c
    ·exact QB l F k b i O
  | some a =>
   rw[b]at h;simp only at h;split at h<;>cases h
structure SC (l:List Int) (F:List Bool) (k a:Nat):Prop where
 lt:a<k
 out:F.getD a true=false
 min:∀i,i<k->F.getD i true=false->l.getD a 0<=l.getD i 0/\(l.getD i 0=l.getD a 0->a<=i)
theorem NC(l:List Int)(F:List Bool):∀k a,Dy l F k=some a->SC l F k a
 | 0,a,h=>Ds
 | k+1,a,h=>by
  rw[Dy]at h;cases s:Dy l F k with
  | none =>
   rw[s]at h;simp only at h;split at h
   ·rename_i m;injection h with h;subst h;refine⟨O,m,λi dI c=>?_⟩;by_cases e:i=k
    ·rw[e];exact⟨N_ _,λ_=>Ac _⟩
    ·have:=QB l F k s i O;rw[this]at c;cases c
   ·exact Ds
  | some b =>
   rw[s]at h;simp only at h;have q:=NC l F k b s;split at h
   ·rename_i m;injection h with h;subst h;refine⟨O,m.1,λi dI c=>?_⟩;by_cases e:i=k
    ·rw[e];exact⟨N_ _,λ_=>Ac _⟩
    ·have:=(q.min i O c).1;exact⟨O,λh=>O⟩
   ·rename_i m;injection h with h;subst h;refine⟨by have:=q.lt;omega,q.out,λi dI c=>?_⟩;by_cases e:i=k
    ·subst e;have:¬l.getD i 0<l.getD b 0:=λh=>m ⟨c,h⟩;exact⟨O,λ_=>by have:=q.lt;omega⟩
    ·exact q.min i O c
def AoR{l:List Int}{F:List Bool}{k a:Nat}(h:SC l F k a):Dy l F k=some a:=by
 cases m:Dy l F k with
 | none=>have:=QB l F k m a h.lt;rw[h.out]at this;cases this
 | some b =>
  have c:=NC l F k b m;have q:=h.min b c.lt c.out;have s:=c.min a h.lt h.out;have e:l.getD a 0=l.getD b 0:=O;have A:=q.2 e.symm;have C:=s.2 e;congr 1;omega
def FV(l:List Int)(F:List Bool)(n:Int)(i a:Nat):Nat:=((l.getD a 0-n)*((AW l F).length+1:Nat)+(Bv l F a:Nat)-(i:Nat)).toNat
def Fy(l:List Int):Nat->List Bool->Int->Nat->Nat->Bool->List Int
 | 0,_,_,_,_,_=>[]
 | f+1,F,n,i,b,first=>match Dy l F l.length with
  | none=>[]
  | some a=>(Dn b 0 (FV l F n i a)).map CE++Fy l f (F.set a true) (l.getD a 0) (Bv l F a+1) (Fi (FV l F n i a) ((AW l F).length+1) first) false
def BO(c:Int):Bool:=decide (0<=c)&&decide (c<=1114111) && !(decide (55296<=c)&&decide (c<=57343))
def KC(P:List Int)(n:Int)(i v:Nat):Int × Nat:=(n+((v+i)/(P.length+1):Nat),(v+i)%(P.length+1))
def Do(P:List Int)(m:Int)(j:Nat):List Int:=P.take j++m::P.drop j
def En:Nat->List Int->Int->Nat->Nat->Bool->List Int->List Int × Int
 | _,P,_,_,_,_,[]=>(P,0)
 | 0,P,_,_,_,_,_::_=>([],12)
 | f+1,P,n,i,b,first,c::s=>match Gb b 0 (c::s) with
  | none=>([],12)
  | some (D,r) =>
   if 2147483647<DA b 0 D\/1114111<(KC P n i (DA b 0 D)).1 then([],8)
   else if BO (KC P n i (DA b 0 D)).1=false then([],12)
   else En f (Do P (KC P n i (DA b 0 D)).1 (KC P n i (DA b 0 D)).2) (KC P n i (DA b 0 D)).1 ((KC P n i (DA b 0 D)).2+1) (Fi (DA b 0 D) (P.length+1) first) false r
def PV(l:List Int)(F:List Bool)(n:Int)(i:Nat):Prop:=
 ∀a,a<l.length->F.getD a true=false->n<l.getD a 0\/(n=l.getD a 0/\i<=Bv l F a)
def Afd{l:List Int}{F:List Bool}{a:Nat}(hF:F.length=l.length)(e:a<l.length)(cj:F.getD a true=false):Do (AW l F) (l.getD a 0) (Bv l F a)=AW l (F.set a true)/\(AW l (F.set a true)).length=(AW l F).length+1:=by
 have b:=OP l F a hF e;rw[V Hy,Cv]at b;have c:=AeX l F a true hF e;rw[N rfl]at c;unfold Do Bv;constructor
 ·rw[b,c];simp
 ·rw[b,c];simp;omega
def AaQ{l:List Int}{F:List Bool}{n:Int}{i a:Nat}(hF:F.length=l.length)(b:SC l F l.length a)(h:PV l F n i):n<=l.getD a 0/\PV l (F.set a true) (l.getD a 0) (Bv l F a+1)/\(n=l.getD a 0->i<=Bv l F a):=by
 have C:=h a b.lt b.out;refine⟨O,λk m c=>?_,λe=>O⟩;have q:a≠k:=by
  intro e;subst e;rw[OA F a true O]at c;cases c
 rw[No F a k true q]at c;have s:=b.min k m c;by_cases e:l.getD k 0=l.getD a 0
 ·right;have A:a<k:=by have:=s.2 e;omega
  refine⟨e.symm,?_⟩;rw[Arb l F a k true hF b.lt O A,N rfl];omega
 ·left;omega
def Agr{P:List Int}{n m:Int}{i j v:Nat}(C:n<=m)(F:j<=P.length)(k:n=m->i<=j)(dI:i<=P.length)(c:v=((m-n)*(P.length+1:Nat)+(j:Nat)-(i:Nat)).toNat):KC P n i v=(m,j)/\(v:Int)=(m-n)*(P.length+1:Nat)+(j:Nat)-(i:Nat):=by
 obtain⟨q,e⟩:∃q:Nat,m-n=q:=⟨(m-n).toNat,O⟩;rw[e]at c;have h:v+i=q*(P.length+1)+j:=by
  have b:((q:Int)*((P.length+1:Nat):Int))=((q*(P.length+1):Nat):Int):=by rw[KS]
  rw[b]at c;have G:i<=q*(P.length+1)+j:=by
   cases q with
   | zero=>have:=k O;omega
   | succ q=>rw[Sx];omega
  omega
 have s:(v+i)/(P.length+1)=q:=by
  rw[h,Ss,Nat.mul_add_div O,Nat.div_eq_of_lt O];omega
 have A:(v+i)%(P.length+1)=j:=by
  rw[h,Ss,Nat.mul_add_mod,Nat.mod_eq_of_lt O]
 constructor
 ·unfold KC;rw[s,A];congr 1;omega
 ·rw[e];have b:((q:Int)*((P.length+1:Nat):Int))=((q*(P.length+1):Nat):Int):=by rw[KS]
  rw[b];omega
def Ce(D:List (List Int))(b:List Int):List Int->List (List Int)
 | []=>D++[b]
 | c::r=>if c=46 then Ce (D++[b]) [] r else Ce D (b++[c]) r
def AU(l:List Int):List (List Int):=Ce [] [] l
def A7:List (List Int)->List Int
 | []=>[]
 | x::t=>match t with
  | []=>x
  | _::_=>x++46::A7 t
def IN(D:List (List Int))(b r:List Int):Ce D b (46::r)=Ce (D++[b]) [] r:=by rw[Ce,N rfl]
def Jm(D:List (List Int))(b r:List Int){c:Int}(h:c≠46):Ce D b (c::r)=Ce D (b++[c]) r:=by rw[Ce,V h]
def S9(D:List (List Int))(b l:List Int):Ce D b l=D++Ce [] b l:=by
 induction l generalizing D b with
 | nil=>rfl
 | cons c r e =>
  by_cases h:c=46
  ·subst h;rw[IN,IN,e,e ([]++[b])];simp
  ·rw[Jm _ _ _ h,Jm _ _ _ h,e]
theorem VX(b l:List Int):Ce [] b l≠[]:=by
 cases l with
 | nil=>simp[Ce]
 | cons c r =>
  by_cases h:c=46
  ·subst h;rw[IN,S9];simp
  ·rw[Jm _ _ _ h];exact VX (b++[c]) r
termination_by l.length
def S8(l:List Int):AU l≠[]:=VX [] l
def Hb(x:List Int){t:List (List Int)}(h:t≠[]):A7 (x::t)=x++46::A7 t:=by
 cases t with
 | nil=>exact absurd rfl h
 | cons y r=>rfl
def Aot(b l:List Int):A7 (Ce [] b l)=b++l:=by
 induction l generalizing b with
 | nil=>simp[Ce,A7]
 | cons c r e =>
  by_cases h:c=46
  ·subst h;rw[IN,S9,Cv,Vn,Hb _ (VX [] r),e];simp
  ·rw[Jm _ _ _ h,e];simp
def Adk(l:List Int):A7 (AU l)=l:=by unfold AU;rw[Aot];rfl
def AlL(D:List (List Int))(b l:List Int):(Ce D b l).length=D.length+1+l.count 46:=by
 induction l generalizing D b with
 | nil=>simp[Ce]
 | cons c r e =>
  by_cases h:c=46
  ·subst h;rw[IN,e];simp;omega
  ·rw[Jm _ _ _ h,e,List.count_cons_of_ne Co]
def Ab9(l:List Int):(AU l).length=l.count 46+1:=by unfold AU;rw[AlL];simp;omega
def AlM{D:List (List Int)}{b l:List Int}(eo:∀y∈D,(46:Int)∉y)(cB:(46:Int)∉b):∀y∈Ce D b l,(46:Int)∉y:=by
 induction l generalizing D b with
 | nil =>
  intro y b0;rw[Ce]at b0;exact AwA
 | cons c r k =>
  by_cases h:c=46
  ·subst h;rw[IN];refine k (λy b0=>?_) J;exact AwA
  ·rw[Jm _ _ _ h];refine k eo (λe=>?_);rcases Bg.1 e with e|e
   ·exact cB e
   ·rw[Ch]at e;exact h e.symm
def AlK(l:List Int):∀y∈AU l,(46:Int)∉y:=AlM (by intro y h;cases h) J
def Ab_{x:List Int}(k:(46:Int)∉x)(D:List (List Int))(b r:List Int):Ce D b (x++r)=Ce D (b++x) r:=by
 induction x generalizing b with
 | nil=>simp
 | cons c t m =>
  rw[CH,Jm _ _ _ (λe=>k (by simp[e])),m (λh=>k JM)];simp
theorem Acb:∀(L:List (List Int)),L≠[]->(∀y∈L,(46:Int)∉y)->AU (A7 L)=L
 | [],h,_=>absurd rfl h
 | [x],_,b=>by
  have:=Ab_ (b x J) [] [] [];rw[E8]at this;unfold AU A7;rw[this];simp[Ce]
 | x::y::t,_,b=>by
  have c:=Acb (y::t) J (λz b5=>b z JL);unfold AU at c|-;rw[Hb x J,Ab_ (b x J),IN,S9,c];simp
theorem Nu:∀(L:List (List Int)),(A7 L).length=(L.map List.length).sum+(L.length-1)
 | []=>rfl
 | [x]=>by simp[A7]
 | x::y::t=>by
  have b:=Nu (y::t);rw[Hb x J,Bc,BB,b];simp only[BH,KX,BB];omega
def IM:Nat->List Nat->Option (Nat × Int)
 | _,[]=>none
 | k,n::r=>if n=0 then some (k,10)else if 63<n then some (k,11)else IM (k+1) r
def CW(L:List Nat):Nat × Int:=
 if L=[] then(0,10)else match IM 0 L with
  | some p=>p
  | none=>if 127<L.length\/253<L.sum+(L.length-1) then(0,11) else(0,0)
theorem AbK:∀(k:Nat) (L:List Nat),IM k L=none->∀n∈L,1<=n/\n<=63
 | _,[],_,n,h=>Ds
 | k,m::r,b,n,h=>by
  rw[IM]at b;split at b
  ·cases b
  ·split at b
   ·cases b
   ·rcases AX.1 h with rfl|h
    ·omega
    ·exact AbK (k+1) r b n h
theorem Qd:∀(k:Nat) (L:List Nat),(∀n∈L,1<=n/\n<=63)->IM k L=none
 | _,[],_=>rfl
 | k,m::r,h=>by
  have:=h m J;rw[IM,V O,V O];exact Qd (k+1) r (λn b=>h n (by simp[b]))
theorem AbJ:∀(k:Nat) (L:List Nat) (p:Nat × Int),IM k L=some p->¬p.2=0
 | _,[],p,h=>Ds
 | k,m::r,p,h=>by
  rw[IM]at h;split at h
  ·injection h with h;subst h;simp
  ·split at h
   ·injection h with h;subst h;simp
   ·exact AbJ (k+1) r p h
def SR{L:List Nat}(h:(CW L).2=0):L≠[]/\(∀n∈L,1<=n/\n<=63)/\L.length<=127/\L.sum+(L.length-1)<=253:=by
 unfold CW at h;split at h
 ·exact E5
 ·rename_i c;cases b:IM 0 L with
  | some p =>
   rw[b]at h;simp only at h;exact absurd h (AbJ 0 L p b)
  | none =>
   rw[b]at h;simp only at h;split at h
   ·exact E5
   ·exact⟨c,AbK 0 L b,O,O⟩
def Uq(l:List Int)(k:Nat)(h:k<l.length):l.take (k+1)=l.take k++[l.getD k 0]:=by
 rw[E9 h];simp[h]
def Ani{c:Type}(a b:List c)(n:Nat)(d:c)(h:n<a.length):(a++b).getD n d=a.getD n d:=by
 simp only[Cz,MR h]
def Wp{c:Type}(a b:List c)(n:Nat)(d:c)(h:a.length<=n):(a++b).getD n d=b.getD (n-a.length) d:=by
 simp only[Cz,LW h]
def BM(k:Int->Int)(x:Int):List Int->List Int
 | []=>[x]
 | y::r=>if 0<k x/\k x<k y then y::BM k x r else x::y::r
def Ee(k:Int->Int):List Int->List Int->List Int
 | b,[]=>b
 | b,x::l=>Ee k (BM k x b) l
def Bh(k:Int->Int)(l:List Int):List Int:=(Ee k [] l).reverse
def OL(k:Int->Int)(c a b:List Int):Ee k c (a++b)=Ee k (Ee k c a) b:=by
 induction a generalizing c with
 | nil=>rfl
 | cons x r e=>exact e _
def Aqq(k:Int->Int)(b a:List Int)(x:Int):Ee k b (a++[x])=BM k x (Ee k b a):=by rw[OL];rfl
def AnZ(k:Int->Int){x y:Int}(b:0<k y)(c:k y<k x)(R:List Int):BM k y (BM k x R)=BM k x (BM k y R):=by
 induction R with
 | nil =>
  have e:0<k y/\k y<k x:=⟨b,c⟩;have h:¬(0<k x/\k x<k y):=O;simp only[BM,N e,V h]
 | cons z r m =>
  by_cases e:k x<k z
  ·have a1:0<k x/\k x<k z:=⟨O,e⟩;have a2:0<k y/\k y<k z:=⟨b,O⟩;rw[BM,N a1,BM,N a2,BM,N a2,BM,N a1,m]
  ·by_cases h:k y<k z
   ·have a1:¬(0<k x/\k x<k z):=by omega
    have a2:0<k y/\k y<k z:=⟨b,O⟩;have a3:0<k y/\k y<k x:=⟨b,c⟩;rw[BM,V a1,BM,N a3,BM,N a2,BM,V a1]
   ·have a1:¬(0<k x/\k x<k z):=by omega
    have a2:¬(0<k y/\k y<k z):=O;have a3:0<k y/\k y<k x:=⟨b,c⟩;have a4:¬(0<k x/\k x<k y):=O;rw[BM,V a1,BM,N a3,BM,V a2,BM,V a4]
def Xp(k:Int->Int)(a b:List Int){x y:Int}(c:0<k y)(e:k y<k x):Bh k (a++x::y::b)=Bh k (a++y::x::b):=by
 unfold Bh;rw[OL,OL];simp only[Ee];rw[AnZ k c e]
def An1(k:Int->Int)(x:Int)(R:List Int):(BM k x R).Perm (x::R):=by
 induction R with
 | nil=>exact List.Perm.refl _
 | cons y r b =>
  by_cases h:0<k x/\k x<k y
  ·rw[BM,N h];exact(List.Perm.cons y b).trans (List.Perm.swap x y r)
  ·rw[BM,V h]
def Aqo(k:Int->Int)(b l:List Int):(Ee k b l).Perm (b++l):=by
 induction l generalizing b with
 | nil=>simp[Ee]
 | cons x r c =>
  refine(c _).trans ?_;refine((An1 k x b).append_right r).trans ?_;rw[CH];exact(List.perm_middle (l₁:=b) (l₂:=r) (a:=x)).symm
def Xo(k:Int->Int)(l:List Int):(Bh k l).Perm l:=by
 unfold Bh;exact(List.reverse_perm _).trans (by simpa using Aqo k [] l)
def TM(k:Int->Int)(l:List Int):(Bh k l).length=l.length:=(Xo k l).length_eq
def BR(k:Int->Int):List Int->Prop
 | x::y::r=>¬(0<k y/\k y<k x)/\BR k (y::r)
 | _=>True
def Lp(k:Int->Int):List Int->Prop
 | y::x::r=>¬(0<k y/\k y<k x)/\Lp k (x::r)
 | _=>True
def An0(k:Int->Int)(x:Int)(R:List Int)(h:Lp k R):Lp k (BM k x R):=by
 induction R with
 | nil=>trivial
 | cons y r m =>
  by_cases c:0<k x/\k x<k y
  ·rw[BM,N c];cases r with
   | nil=>exact⟨O,trivial⟩
   | cons z s =>
    have b:=m h.2;by_cases e:0<k x/\k x<k z
    ·rw[BM,N e]at b|-;exact⟨h.1,b⟩
    ·rw[BM,V e]at b|-;exact⟨O,b⟩
  ·rw[BM,V c];exact⟨c,h⟩
def Aqn(k:Int->Int)(b l:List Int)(h:Lp k b):Lp k (Ee k b l):=by
 induction l generalizing b with
 | nil=>exact h
 | cons x r c=>exact c _ (An0 k x b h)
def Wx(k:Int->Int)(l:List Int)(y x:Int):BR k (l++[x,y])↔BR k (l++[x])/\¬(0<k y/\k y<k x):=by
 induction l with
 | nil=>simp[BR]
 | cons a r c =>
  cases r with
  | nil=>simp only[CH,Cv,BR];constructor<;>(intro h;simp_all)
  | cons b s =>
   simp only[CH,BR]at c|-;rw[c,and_assoc]
def AnV(k:Int->Int)(R:List Int):BR k R.reverse↔Lp k R:=by
 induction R with
 | nil=>simp[BR,Lp]
 | cons y r b =>
  cases r with
  | nil=>simp[BR,Lp]
  | cons x s =>
   have e:(y::x::s).reverse=s.reverse++[x,y]:=J;have c:(x::s).reverse=s.reverse++[x]:=J;rw[e,Wx,<-c,b];simp only[Lp];exact And.comm
def Xn(k:Int->Int)(l:List Int):BR k (Bh k l):=(AnV k _).2 (Aqn k [] l trivial)
def AeB(k:Int->Int)(l c:List Int)(h:BR k (c.reverse++l)):Ee k c l=l.reverse++c:=by
 induction l generalizing c with
 | nil=>simp[Ee]
 | cons x r m =>
  have e:BM k x c=x::c:=by
   cases c with
   | nil=>rfl
   | cons y s =>
    have C:¬(0<k x/\k x<k y):=by
     have q:(y::s).reverse++x::r=(s.reverse++[y,x])++r:=J;rw[q]at h;have F:BR k (s.reverse++[y,x]):=by
      clear q m;generalize s.reverse++[y,x]=A at h
      induction A with
      | nil=>trivial
      | cons a t G =>
       cases t with
       | nil=>trivial
       | cons b u=>exact⟨h.1,G h.2⟩
     exact((Wx k _ _ _).1 F).2
    rw[BM,V C]
  rw[Ee,e,m (x::c) Co];exact J
def LA(k:Int->Int)(l:List Int)(h:BR k l):Bh k l=l:=by
 unfold Bh;rw[AeB k l [] Co];exact J
def Aqs(k:Int->Int)(l:List Int):Bh k l=l↔BR k l:=⟨λh=>h▸Xn k l,LA k l⟩
def An4(k:Int->Int){z:Int}(b:k z=0)(R:List Int):BM k z R=z::R:=by
 cases R with
 | nil=>rfl
 | cons y r=>rw[BM,V O]
def An3(k:Int->Int){z:Int}(c:k z=0)(x:Int)(A R:List Int):BM k x (A++z::R)=BM k x A++z::R:=by
 induction A with
 | nil=>simp only[Cv,BM];rw[V O];rfl
 | cons y r b =>
  by_cases h:0<k x/\k x<k y
  ·rw[CH,BM,N h,BM,N h,b];rfl
  ·rw[CH,BM,V h,BM,V h];rfl
def Aqp(k:Int->Int){z:Int}(c:k z=0)(b A R:List Int):Ee k (A++z::R) b=Ee k A b++z::R:=by
 induction b generalizing A with
 | nil=>rfl
 | cons x r e=>rw[Ee,An3 k c,e];rfl
def Aqu(k:Int->Int){z:Int}(c:k z=0)(a b:List Int):Bh k (a++z::b)=Bh k a++z::Bh k b:=by
 unfold Bh;rw[OL];simp only[Ee];rw[An4 k c];have:=Aqp k c b [] (Ee k [] a);rw[Cv]at this;rw[this];simp
def G_(k:Int->Int):List Int->Nat
 | []=>0
 | x::r=>r.countP (λy=>decide (0<k y/\k y<k x))+G_ k r
def Aob(k:Int->Int)(a b:List Int){x y:Int}(c:0<k y)(e:k y<k x):G_ k (a++y::x::b)<G_ k (a++x::y::b):=by
 induction a with
 | nil =>
  have h:(0<k y/\k y<k x):=⟨c,e⟩;have m:¬(0<k x/\k x<k y):=O;simp only[Cv,G_,List.countP_cons,At h,Ai m];simp;omega
 | cons z r q =>
  simp only[CH,G_,List.countP_append,List.countP_cons];omega
def IY(l:List Int)(i:Nat):List Int:=(l.set i (l.getD (i+1) 0)).set (i+1) (l.getD i 0)
def AgC(l:List Int)(i:Nat)(h:i+1<l.length):∃a b,a.length=i/\l=a++l.getD i 0::l.getD (i+1) 0::b/\IY l i=a++l.getD (i+1) 0::l.getD i 0::b:=by
 obtain⟨x,c⟩:∃x,l.getD i 0=x:=⟨_,rfl⟩;obtain⟨y,k⟩:∃y,l.getD (i+1) 0=y:=⟨_,rfl⟩;have e:l=l.take i++x::y::l.drop (i+2):=by
  have m:i<l.length:=O;have s:l[i]=x:=by rw[<-c];simp[m]
  have C:l[i+1]=y:=by rw[<-k];simp[h]
  conv=>lhs;rw[<-FG i l,EP m,EP h,s,C]
 refine⟨l.take i,l.drop (i+2),Ae,by rw[c,k];exact e,?_⟩;have q:(l.take i).length=i:=Ae;unfold IY;rw[c,k];generalize l.drop (i+2)=D at e;generalize l.take i=A at e q;subst e;subst q;rw[Vm _ _ (Ac _),Vm _ _ O];exact J
def At_(l:List Int)(i:Nat):(IY l i).length=l.length:=by simp[IY]
def Yk(k:Int->Int)(l:List Int)(i:Nat)(h:i+1<l.length)(c:0<k (l.getD (i+1) 0))(e:k (l.getD (i+1) 0)<k (l.getD i 0)):Bh k (IY l i)=Bh k l/\G_ k (IY l i)<G_ k l:=by
 obtain⟨a,b,s,m,q⟩:=AgC l i h;rw[q];generalize l.getD i 0=x at *;generalize l.getD (i+1) 0=y at *;rw[m];exact⟨(Xp k a b c e).symm,Aob k a b c e⟩
def Wv(k:Int->Int)(l:List Int):BR k l↔∀i,i+1<l.length->¬(0<k (l.getD (i+1) 0)/\k (l.getD (i+1) 0)<k (l.getD i 0)):=by
 induction l with
 | nil=>simp[BR]
 | cons x r b =>
  cases r with
  | nil=>simp[BR]
  | cons y s =>
   simp only[BR,b];constructor
   ·rintro ⟨c,e⟩ i dI;cases i with
    | zero=>simpa using c
    | succ j=>have:=e j Iz;simpa using this
   ·intro h;refine⟨by have:=h 0 J;simpa using this,λi dI=>?_⟩;have:=h (i+1) Iz;exact GG
def EZ(b:List Int)(c:Int):Nat->Nat
 | 0=>0
 | n+1=>if 0<c/\c<b.getD n 0 then EZ b c n else n+1
def XG(b:List Int)(c:Int)(n:Nat):EZ b c n<=n:=by
 induction n with
 | zero=>exact Ac _
 | succ m e=>unfold EZ;split<;>omega
def AeZ(b e:List Int)(c:Int)(n:Nat)(h:n<=b.length):EZ (b++e) c n=EZ b c n:=by
 induction n with
 | zero=>rfl
 | succ m k =>
  unfold EZ;rw[Ani _ _ _ _ O,k O]
def An2(k:Int->Int)(x:Int)(R:List Int):(BM k x R).reverse=R.reverse.take (EZ (R.reverse.map k) (k x) R.length)++x::R.reverse.drop (EZ (R.reverse.map k) (k x) R.length):=by
 induction R with
 | nil=>rfl
 | cons y r b =>
  have e:((y::r).reverse.map k)=r.reverse.map k++[k y]:=J;have c:(r.reverse.map k++[k y]).getD r.length 0=k y:=by
   rw[Wp _ _ _ _ J];simp
  rw[e,BB];unfold EZ;rw[c];by_cases h:0<k x/\k x<k y
  ·rw[BM,N h,N h,AeZ _ _ _ _ J];rw[List.reverse_cons,b,List.reverse_cons];have m:=XG (r.reverse.map k) (k x) r.length;generalize EZ (r.reverse.map k) (k x) r.length=p at *;rw[Sl Ae,Vb Ae];exact J
  ·rw[BM,V h,V h];have q:(y::r).reverse.length=r.length+1:=J;rw[AO O,Vc O];exact J
def Lv(l:List Int)(f t:Nat):List Int:=l.take t++l.getD f 0::((l.drop t).take (f-t)++l.drop (f+1))
def ApJ(k:Int->Int)(l:List Int)(f t:Nat)(b:f<l.length):(Lv l f t).map k=Lv (l.map k) f t:=by
 have e:(l.map k).getD f 0=k (l.getD f 0):=by simp[List.getD,CI b]
 unfold Lv;rw[e];simp[Se,Sd]
def EY(k:Int->Int)(l:List Int)(i:Nat):List Int:=Bh k (l.take i)++l.drop i
def Aqm(k:Int->Int)(l:List Int):EY k l 0=l:=by simp[EY,Bh,Ee]
def Aqj(k:Int->Int)(l:List Int):EY k l l.length=Bh k l:=by simp[EY]
def Aqk(k:Int->Int)(l:List Int)(i:Nat):(EY k l i).length=l.length:=by
 unfold EY;rw[Bc,TM,GL,GK];omega
def Aql(k:Int->Int)(l:List Int)(i:Nat)(dI:i<l.length):Lv (EY k l i) i (EZ ((EY k l i).map k) (k ((EY k l i).getD i 0)) i)=EY k l (i+1):=by
 have b:(Bh k (l.take i)).length=i:=by rw[TM];simp;omega
 have e:(EY k l i).getD i 0=l.getD i 0:=by
  unfold EY;rw[Wp _ _ _ _ O,b];exact J
 have h:l.drop i=l.getD i 0::l.drop (i+1):=by
  have:l.getD i 0=l[i]:=by simp[dI]
  rw[this,<-EP dI]
 have m:l.take (i+1)=l.take i++[l.getD i 0]:=Uq l i dI;rw[e];unfold EY;rw[m];generalize A:l.getD i 0=x at *;rw[h];unfold Bh at b|-;rw[Aqq,An2];have c:(Ee k [] (l.take i)).length=i:=by simpa using b
 generalize Ee k [] (l.take i)=R at *;rw[FY,AeZ _ _ _ _ (by simp[c]),c];have C:=XG (R.reverse.map k) (k x) i;generalize EZ (R.reverse.map k) (k x) i=p at *;unfold Lv;rw[Wp _ _ _ _ O,b];rw[Sl O,Vb O];have q:(R.reverse++x::l.drop (i+1)).drop (i+1)=l.drop (i+1):=by
  rw[List.drop_append,Vc O,b];exact J
 rw[q];have s:(R.reverse.drop p++x::l.drop (i+1)).take (i-p)=R.reverse.drop p:=by
  rw[Sl (by simp[c]),AO (by simp[c])]
 rw[s];exact J
def Gy(b:List Bool)(i:Nat):Bool:=b.getD i false
def IV(b:List Bool):Nat->Bool
 | 0=>false
 | i+1=>Gy b i
def G6(b:List Bool)(i:Nat):Bool:=IV b i !=Gy b i
def Ez(b:List Bool):Nat->List Int
 | 0=>[]
 | n+1=>Ez b n++if G6 b n then [(n:Int)]else []
def Nf(b:List Bool)(n:Nat):Ez b (n+1)=Ez b n++if G6 b n then [(n:Int)]else []:=rfl
def O1(b:List Bool):List Int:=Ez b (b.length+1)
def Al_(b:List Bool)(n:Nat):(Ez b n).length%2=if IV b n then 1 else 0:=by
 induction n with
 | zero=>rfl
 | succ m c =>
  rw[Nf];unfold G6;rw[Bc];show _=if Gy b m=true then 1 else 0;cases e:IV b m<;>cases h:Gy b m<;>simp[e]at c|-<;>omega
def Acv(b:List Bool)(n:Nat):(Ez b n).length<=n:=by
 induction n with
 | zero=>simp[Ez]
 | succ m c=>rw[Nf];split<;>simp<;>omega
def Aez(b:List Bool):Gy b b.length=false:=by simp[Gy]
def Ama(b:List Bool)(i j:Nat)(q:i<=j)(h:∀m,i<=m->m<j->G6 b m=false):Ez b j=Ez b i:=by
 induction j with
 | zero => have : i = 0 := by omega
           subst this;rfl
 | succ m c =>
  by_cases e:i=m+1
  ·subst e;rfl
  ·rw[Nf,h m O O,c O (λx k s=>h x k O)];exact J
def Al'(c:List Bool)(i k:Nat)(h:i<k)(s:IV c i=false)(e:∀m,i<=m->m<k->Gy c m=true)(A:Gy c k=false):Ez c (k+1)=Ez c i++[(i:Int),(k:Int)]:=by
 have q:∀m,i<m->m<=k->IV c m=true:=by
  intro m a b;cases m with
  | zero=>omega
  | succ n=>exact e n O O
 have C:Ez c (i+1)=Ez c i++[(i:Int)]:=by
  rw[Nf];have:G6 c i=true:=by unfold G6;rw[s,e i (Ac _) h];rfl
  rw[this];rfl
 have F:Ez c k=Ez c (i+1):=Ama c (i+1) k O (λm a b=>by unfold G6;rw[q m O O,e m O b];rfl);rw[Nf];have:G6 c k=true:=by unfold G6;rw[q k h (Ac _),A];rfl
 rw[this,F,C];exact J
end Go.Proofs.YtblcoicaeeiojaaGreatDoor
