/- bidi: what the functions -/
import Derived.Test.YtblcoicaeeiojaaGreatDoorSOaCtxB
import Derived.Test.YtblcoicaeeiojaaGreatDoorSOaTabRO
set_option linter.all false
set_option maxHeartbeats 4000000
set_option maxRecDepth 100000
open Go.Proofs.Tryz
namespace Go.Proofs.YtblcoicaeeiojaaGreatDoor
def Kz(T:Y)(l:List Int):Bool:=decide (AB T l=0)&&EF T l
def Ra(T:Y)(l:List Int):Int × Int:=if AB T l≠0 then(0,AB T l) else(Dd T l,0)
def Ms(T:Y):Nat->List (List Int)->Option (Nat × Int)
 | _,[]=>none
 | k,l::r=>if AB T l≠0 then some (k,AB T l)else Ms T (k+1) r
def LN(T:Y):Nat->List (List Int)->Option Nat
 | _,[]=>none
 | k,l::r=>if Dd T l≠0 then some k else LN T (k+1) r
def Cu(T:Y)(L:List (List Int)):Int × Int:=match Ms T 0 L with
 | some (k,e)=>((k:Int),e)
 | none=>if L.any (EF T)=true then(match LN T 0 L with|some k=>((k:Int),19)|none=>(0,0)) else(0,0)
theorem QT(T:Y):∀(L:List (List Int)) (k:Nat),Ms T k L=none↔∀l∈L,AB T l=0
 | [],k=>by simp[Ms]
 | l::r,k=>by
  rw[Ms];by_cases h:AB T l=0
  ·rw[V O,QT T r (k+1)];exact JM
  ·rw[N h];exact JM
theorem Uw(T:Y):∀(L:List (List Int)) (k:Nat),LN T k L=none↔∀l∈L,Dd T l=0
 | [],k=>by simp[LN]
 | l::r,k=>by
  rw[LN];by_cases h:Dd T l=0
  ·rw[V O,Uw T r (k+1)];exact JM
  ·rw[N h];exact JM
theorem Afx(T:Y):∀(L:List (List Int)) (k i:Nat),i<L.length->(∀j,j<i->AB T (L.getD j [])=0)->AB T (L.getD i [])≠0->Ms T k L=some (k+i,AB T (L.getD i []))
 | [],k,i,h,_,_=>E5
 | l::r,k,0,_,_,h=>by rw[Ms];rw[N Co];simp
 | l::r,k,i+1,h,b,c=>by
  have e:=b 0 O;rw[DI]at e;rw[Ms,V O,Afx T r (k+1) i Co (λj m=>by have:=b (j+1) O;rwa[CS]at this) (by simpa using c),CS,show k+1+i=k+(i+1) by omega]
theorem AgS(T:Y):∀(L:List (List Int)) (k i:Nat),i<L.length->(∀j,j<i->Dd T (L.getD j [])=0)->Dd T (L.getD i [])≠0->LN T k L=some (k+i)
 | [],k,i,h,_,_=>E5
 | l::r,k,0,_,_,h=>by rw[LN];rw[N Co];simp
 | l::r,k,i+1,h,b,c=>by
  have e:=b 0 O;rw[DI]at e;rw[LN,V O,AgS T r (k+1) i Co (λj m=>by have:=b (j+1) O;rwa[CS]at this) (by simpa using c),show k+1+i=k+(i+1) by omega]
def Qt(L:List (List Int))(k:Nat)(h:k<L.length):L.getD k []∈L:=JM
def W_(L:List (List Int))(l:List Int)(h:l∈L):∃k,k<L.length/\L.getD k []=l:=by
 obtain⟨k,b,e⟩:=JU h;exact⟨k,b,by simp[b,e]⟩
def Acs{T:Y}{L:List (List Int)}{i:Nat}(h:i<L.length)(b:∀j,j<i->AB T (L.getD j [])=0)(c:AB T (L.getD i [])≠0):Cu T L=((i:Int),AB T (L.getD i [])):=by
 unfold Cu;rw[Afx T L 0 i h b c];simp
def V4{T:Y}{L:List (List Int)}(b:∀l∈L,AB T l=0)(c:L.any (EF T)=false):Cu T L=(0,0):=by
 unfold Cu;rw[(QT T L 0).2 b,c];rfl
def Acu{T:Y}{L:List (List Int)}{i:Nat}(b:∀l∈L,AB T l=0)(c:L.any (EF T)=true)(h:i<L.length)(e:∀j,j<i->Dd T (L.getD j [])=0)(k:Dd T (L.getD i [])≠0):Cu T L=((i:Int),19):=by
 unfold Cu;rw[(QT T L 0).2 b,c,AgS T L 0 i h e k];simp
def Acr{T:Y}{L:List (List Int)}(b:∀l∈L,AB T l=0)(c:∀l∈L,Dd T l=0):Cu T L=(0,0):=by
 unfold Cu;rw[(QT T L 0).2 b];simp only;rw[(Uw T L 0).2 c];split<;>rfl
def V3{T:Y}{L:List (List Int)}(q:∀l∈L,AB T l=0):(Cu T L).2=if L.any (EF T)=true/\L.any (λl=>decide (Dd T l≠0))=true then 19 else 0:=by
 unfold Cu;rw[(QT T L 0).2 q];simp only;by_cases b:L.any (EF T)=true
 ·rw[N b];cases e:LN T 0 L with
  | none =>
   have:=(Uw T L 0).1 e;rw[V];rintro ⟨_,h⟩;obtain⟨l,c,m⟩:=JS.1 h;exact absurd (this l c) (If m)
  | some k =>
   rw[N];refine⟨b,?_⟩;cases h:L.any (λl=>decide (Dd T l≠0)) with
   | true=>rfl
   | false =>
    have m:∀l∈L,Dd T l=0:=λl c=>by
     have:=(R8.1 h) l c;exact GG
    rw[(Uw T L 0).2 m]at e;cases e
 ·rw[V b,V (λh=>b h.1)]
def DE:List Nat->Nat
 | []=>0
 | k::r=>DE r ||| 2^k
theorem Ko(j:Nat):∀b:List Nat,(DE b).testBit j=b.contains j
 | []=>by simp[DE]
 | k::r=>by
  rw[DE,Nat.testBit_or,Ko j r,Vr];by_cases h:k=j
  ·subst h;simp
  ·have:(j==k)=false:=by simp;omega
   have c:¬j=k:=λe=>h e.symm;simp[List.contains_cons,h,c]
theorem Ad9(n:Nat):∀b:List Nat,(∀k∈b,k<n)->DE b<2^n
 | [],_=>by simp[DE];exact Nat.two_pow_pos n
 | k::r,h=>by
  rw[DE];exact Nat.or_lt_two_pow (Ad9 n r (λx b3=>h x N3)) (Nat.pow_lt_pow_right O (h k J))
def SE(A:Nat)(b:List Nat):(A &&& DE b≠0)↔∃k∈b,A.testBit k=true:=by
 constructor
 ·intro h;obtain⟨i,dI⟩:=Nat.exists_testBit_of_ne_zero h;rw[Vq,Ko,AJ]at dI;exact⟨i,by simpa using dI.2,dI.1⟩
 ·rintro ⟨k,c,h⟩ e;have:(A &&& DE b).testBit k=true:=by rw[Vq,Ko,h];simpa using c
  rw[e]at this;simp at this
def DU(T:Y)(l:List Int):Nat:=DE (l.map λc=>(B_ T c).toNat)
def Qe(T:Y)(l:List Int)(b:List Nat)(A:∀c,0<=B_ T c):decide (DU T l &&& DE b≠0)=EC T l (b.map λk:Nat=>(k:Int)):=by
 rw[Gd,PU,SE];unfold DU EC;rw[JS];constructor
 ·rintro ⟨k,m,h⟩;rw[Ko]at h;have q:k∈l.map (λc=>(B_ T c).toNat):=Co;obtain⟨c,s,e⟩:=Cc.1 q;refine⟨c,s,?_⟩;have:=A c;have C:B_ T c=(k:Int):=O;rw[C];have F:(k:Int)∈b.map (λk:Nat=>(k:Int)):=Cc.2 ⟨k,m,rfl⟩;exact List.elem_eq_true_of_mem F
 ·rintro ⟨c,s,h⟩;have q:B_ T c∈b.map (λk:Nat=>(k:Int)):=Co;obtain⟨k,m,e⟩:=Cc.1 q;refine⟨k,m,?_⟩;rw[Ko];have:k∈l.map (λc=>(B_ T c).toNat):=Cc.2 ⟨c,s,by rw[<-e];simp⟩;exact GG
def L_{T:Y}(h:Av T=0)(c:Int):0<=B_ T c/\B_ T c<=11:=by
 have b:=(CO h).2.2.1;unfold r3 at b;simp only[AJ]at b;have eB:=b.2.2.2.1;unfold DB at eB;unfold B_;cases dH:val T.ak c with
 | some v =>
  exact Azm
 | none =>
  rw[PS];unfold FO
  repeat' split
  all_goals omega
def AbN{T:Y}(h:Av T=0)(l:List Int):DU T l<4096:=
 Ad9 12 _ λk b=>by
  obtain⟨c,_,rfl⟩:=Cc.1 b;have:=L_ h c;omega
def ApC:∀a b:List Nat,DE (a++b)=DE a ||| DE b:=λa b=>by
 apply Nat.eq_of_testBit_eq;intro i;rw[Nat.testBit_or,Ko,Ko,Ko];rw[Gd];exact J
def Aj5(A:Nat)(b:List Nat):(A &&& DE b=DE b)↔∀k∈b,A.testBit k=true:=by
 constructor
 ·intro h k e;have c:(A &&& DE b).testBit k=(DE b).testBit k:=by rw[h]
  rw[Vq,Ko,show b.contains k=true by simpa using e,JP]at c;exact c
 ·intro h;apply Nat.eq_of_testBit_eq;intro i;rw[Vq,Ko];cases m:b.contains i with
  | true=>rw[h i (by simpa using m)];rfl
  | false=>rw[Ib]
def F2(z:Int):Nat:=if z<0 then 0 else 2^z.toNat
def VM{z:Int}(h:z<=11):F2 z<4096:=by
 unfold F2;split
 ·omega
 ·exact Nat.lt_of_le_of_lt (Nat.pow_le_pow_right O (show z.toNat<=11 by omega)) Aw
def SN(z:Int)(m:List Nat):(F2 z &&& DE m≠0)↔z∈m.map (λk:Nat=>(k:Int)):=by
 rw[SE];unfold F2;by_cases h:z<0
 ·rw[N h];constructor
  ·rintro ⟨k,_,e⟩;simp at e
  ·intro b;obtain⟨k,_,e⟩:=Cc.1 b;omega
 ·rw[V h];constructor
  ·rintro ⟨k,c,e⟩;rw[Vr]at e;have q:=If e;exact Cc.2 ⟨k,c,O⟩
  ·intro b;obtain⟨k,c,e⟩:=Cc.1 b;refine⟨k,c,?_⟩;rw[Vr];exact At O
def G8(T:Y)(l:List Int):Nat:=if l=[]then 0 else F2 (B_ T (l.getD 0 0))
def He(T:Y)(l:List Int):Nat:=F2 (DV T (-1) l)
def Uy(L A:Nat):Int:=if A &&& 2049≠0 then 2 else if L &&& 30=0 then 3 else if A &&& 24=24 then 4 else 0
def Ux(L A:Nat):Int:=if A &&& 2062≠0 then 5 else if L &&& 17=0 then 6 else 0
def Rp(F L A:Nat):Int:=if A=0 then 0 else if F &&& 6≠0 then Uy L A else if F &&& 1≠0 then Ux L A else 1
theorem WO(T:Y):∀(l:List Int) (k:Int),DV T k l=k\/∃c∈l,DV T k l=B_ T c
 | [],k => .inl rfl
 | c::r,k=>by
  rw[DV];split
  ·rcases WO T r k with h|⟨d,b,h⟩
   ·exact .inl h
   ·exact .inr ⟨d,by simp[b],h⟩
  ·rcases WO T r (B_ T c)with h|⟨d,b,h⟩
   ·exact .inr ⟨c,J,h⟩
   ·exact .inr ⟨d,by simp[b],h⟩
def AoO{T:Y}(h:Av T=0)(l:List Int): -1<=DV T (-1) l/\DV T (-1) l<=11:=by
 rcases WO T l (-1)with e|⟨c,_,e⟩
 ·rw[e];omega
 ·rw[e];have:=L_ h c;omega
def Am_{T:Y}(h:Av T=0)(l:List Int):G8 T l<4096:=by
 unfold G8;split
 ·omega
 ·exact VM (L_ h _).2
def Apa{T:Y}(h:Av T=0)(l:List Int):He T l<4096:=VM (AoO h l).2
def As_{T:Y}(h:Av T=0)(l:List Int):decide (DU T l &&& 14≠0)=EF T l:=
 Qe T l [1,2,3] (λc=>(L_ h c).1)
def Ali{T:Y}(h:Av T=0)(l:List Int):(DU T l &&& 24=24)↔(EC T l [4]=true/\EC T l [3]=true):=by
 rw[<-show decide (DU T l &&& DE [4]≠0)=EC T l [4]from Qe T l [4] (λc=>(L_ h c).1),<-show decide (DU T l &&& DE [3]≠0)=EC T l [3]from Qe T l [3] (λc=>(L_ h c).1),PU,PU,SE,SE,show (24:Nat)=DE [3,4]from rfl,Aj5];simp;exact⟨λh=>⟨h.2,h.1⟩,λh=>⟨h.2,h.1⟩⟩
def Alj(T:Y)(c:Int)(l:List Int):DU T (c::l)=DU T l ||| 2^(B_ T c).toNat:=rfl
def Alk(T:Y)(l:List Int)(h:l≠[]):DU T l≠0:=by
 cases l with
 | nil=>exact absurd rfl h
 | cons c r =>
  intro e;rw[Alj]at e;have:(DU T r ||| 2^(B_ T c).toNat).testBit (B_ T c).toNat=true:=by rw[Nat.testBit_or,Vr];simp
  rw[e]at this;simp at this
def Au2{T:Y}(h:Av T=0)(l:List Int):Rp (G8 T l) (He T l) (DU T l)=Dd T l:=by
 have e:∀c,0<=B_ T c:=λc=>(L_ h c).1;unfold Rp Dd;by_cases b:l=[]
 ·rw[N b,b,N (show DU T []=0 from rfl)]
 ·rw[V b,V (Alk T l b)];unfold G8;rw[V b];generalize G:B_ T (l.getD 0 0)=f;have k:(F2 f &&& 6≠0)↔(f=1\/f=2):=by
   rw[show (6:Nat)=DE [1,2]from rfl,SN];simp
  have m:(F2 f &&& 1≠0)↔f=0:=by
   rw[show (1:Nat)=DE [0]from rfl,SN];simp
  unfold Mw Uy Ux He;generalize L:DV T (-1) l=z;have q:(DU T l &&& 2049≠0)↔EC T l [0,11]=true:=by
   rw[<-show decide (DU T l &&& 2049≠0)=EC T l [0,11]from Qe T l [0,11] e,PU]
  have s:(DU T l &&& 2062≠0)↔EC T l [1,2,3,11]=true:=by
   rw[<-show decide (DU T l &&& 2062≠0)=EC T l [1,2,3,11]from Qe T l [1,2,3,11] e,PU]
  have A:(F2 z &&& 30=0)↔(z≠1/\z≠2/\z≠4/\z≠3):=by
   have:=SN z [1,2,3,4];rw[<-show (30:Nat)=DE [1,2,3,4]from rfl]at this;simp only[BH,Eg,AX,CT,C7]at this;by_cases bl:F2 z &&& 30=0
   ·exact Av7
   ·exact Av8
  have C:(F2 z &&& 17=0)↔(z≠0/\z≠4):=by
   have:=SN z [0,4];rw[<-show (17:Nat)=DE [0,4]from rfl]at this;simp only[BH,Eg,AX,CT,C7]at this;by_cases bl:F2 z &&& 17=0
   ·exact Av7
   ·exact Av8
  have F:=Ali h l;simp only[k,m,q,s,A,C,F]
def All(T:Y)(l:List Int)(k:Nat)(h:k<l.length):DU T (l.take (k+1))=DU T (l.take k) ||| 2^(B_ T (l.getD k 0)).toNat:=by
 unfold DU;rw[E9 h,FY,ApC];simp[DE,h]
def Apb(T:Y)(l:List Int)(k:Nat)(h:k<l.length):He T (l.take (k+1))=if B_ T (l.getD k 0)=10 then He T (l.take k)else F2 (B_ T (l.getD k 0)):=by
 unfold He;rw[E9 h,WN];simp only[DV,h,Cz,CI,MV];split<;>rfl
def Wj(T:Y)(l:List Int)(k:Nat)(h:0<l.length):G8 T (l.take (k+1))=F2 (B_ T (l.getD 0 0)):=by
 cases l with
 | nil=>simp at h
 | cons c r=>simp[G8]
def AuB(a b:Nat)(c:a<4096)(e:b<4096):bits .or .u64 (a:Int) (b:Int)=((a ||| b:Nat):Int):=
 (bits_nat .u64 12 Aw (λn h k=>by rw[Aad];omega) a b c e).2
def AuA(a b:Nat)(c:a<4096)(e:b<4096):bits .and .u64 (a:Int) (b:Int)=((a &&& b:Nat):Int):=
 (bits_nat .u64 12 Aw (λn h k=>by rw[Aad];omega) a b c e).1
def AuC(n:Nat)(h:n<=11):IntKind.u64.wrap (2^n:Int)=((2^n:Nat):Int):=by
 have b:2^n<=2048:=Nat.pow_le_pow_right O h;have e:(2^n:Int)=((2^n:Nat):Int):=by push_cast;rfl
 rw[e,Aad];generalize 2^n=p at b;omega
def Bo(L:List UInt8):List Int × Nat × Int:=
 if 4096<L.length then([],0,7)else if(Bt L).2<L.length then([],(Bt L).2,9) else((Bt L).1,0,0)
def EV(x:List Int):List Int × Int:=if D5 x=true/\Ft x=true then Jv x else(x,0)
def A8(T:Y)(x:List Int):List Int × Int:=
 if(EV x).2≠0 then([],(EV x).2)else if Cn T (EV x).1≠0 then([],Cn T (EV x).1) else((EV x).1,0)
def Dw(T:Y):Nat->List (List Int)->List (List Int) × Nat × Int
 | _,[]=>([],0,0)
 | k, x :: r => if (A8 T x).2 ≠ 0 then ([], k, (A8 T x).2) else
   if(Dw T (k+1) r).2.2≠0 then Dw T (k+1) r else((A8 T x).1::(Dw T (k+1) r).1,0,0)
def DX(T:Y)(m:List Int):List (List Int) × Nat × Int:=
 if(Dw T 0 (AU m)).2.2≠0 then([],(Dw T 0 (AU m)).2) else
 if(Cu T (Dw T 0 (AU m)).1).2≠0 then([],(Cu T (Dw T 0 (AU m)).1).1.toNat,(Cu T (Dw T 0 (AU m)).1).2) else((Dw T 0 (AU m)).1,0,0)
def Ga(T:Y)(l:List Int):List (List Int) × Nat × Int:=
 if(Bl T l).2.2≠0 then([],(Bl T l).2)else if Bu T (Bl T l).1≠0 then([],0,Bu T (Bl T l).1)else DX T (BU T (Bl T l).1)
def A9(T:Y)(s:List UInt8):List (List Int) × Nat × Int:=
 if Av T≠0 then([],0,2)else if s=[] then([],0,10) else
 if(Bo s).2.2≠0 then([],(Bo s).2)else Ga T (Bo s).1
def Fq:Nat->List (List Int)->List (List Int) × Nat × Int
 | _,[]=>([],0,0)
 | k, x :: r => if (AE x).2 ≠ 0 then ([], k, (AE x).2) else
   if(Fq (k+1) r).2.2≠0 then Fq (k+1) r else((AE x).1::(Fq (k+1) r).1,0,0)
def Fk(Y:List (List Int)):List Int × Nat × Int:=
 if(Fq 0 Y).2.2≠0 then([],(Fq 0 Y).2)else if(CW ((Fq 0 Y).1.map List.length)).2≠0 then([],CW ((Fq 0 Y).1.map List.length)) else(A7 (Fq 0 Y).1,0,0)
def Bf(T:Y)(s:List UInt8):List Int × Nat × Int:=
 if(A9 T s).2.2≠0 then([],(A9 T s).2)else Fk (A9 T s).1
def JF(T:Y)(s:List UInt8):List Int × Nat × Int:=
 if(Bf T s).2.2≠0 then([],(Bf T s).2) else(A7 (A9 T s).1,0,0)
def AgR{T:Y}{y:List Int}(h:Cn T y=0):y≠[]/\(46:Int)∉y/\(∀c∈y,AM T c=1\/AM T c=4)/\y.all AA=true/\Ft y=false/\Bu T y=0/\BU T y=y:=by
 obtain⟨G,q,s,be,L⟩:=MB h;obtain⟨ac,ad⟩:=Aoh s;have A:∀c∈y,c≠46/\(AM T c=1\/AM T c=4):=λc b=>by
  have:=AR.1 L c b;unfold FA at this;simp only[AJ,Ic,A4]at this;exact this
 refine⟨q,λam=>(A 46 am).1 rfl,λc b=>(A c b).2,(CN G).2.2,?_,ac,ad⟩;have m:IS y=true:=by
  unfold Cn at h;rw[V O,V q,V (by rw[s];simp)]at h;cases a9:IS y with
  | true=>rfl
  | false=>rw[N a9]at h;omega
 unfold Ft;by_cases a':4<=y.length
 ·have ba:BJ y 2=y.getD 2 0:=L8 (k:=2) O;have bb:BJ y 3=y.getD 3 0:=L8 (k:=3) O;have:¬BN (y.take 4)=FX:=λe=>by
   have C:(BN (y.take 4)).getD 2 0=By (y.getD 2 0):=by
    unfold BN;simp[List.getD,Eu,show 2<y.length by omega]
   have F:(BN (y.take 4)).getD 3 0=By (y.getD 3 0):=by
    unfold BN;simp[List.getD,Eu,show 3<y.length by omega]
   rw[e]at C F;have bc:y.getD 2 0=45:=by
    have:(45:Int)=By (y.getD 2 0):=C;unfold By at this;split at this<;>omega
   have bd:y.getD 3 0=45:=by
    have:(45:Int)=By (y.getD 3 0):=F;unfold By at this;split at this<;>omega
   unfold IS at m;rw[ba,bb,bc,bd]at m;simp at m
  simp[this]
 ·simp[a']
def Tv{T:Y}{x:List Int}(h:(A8 T x).2=0):Cn T (A8 T x).1=0/\(A8 T x).1=(EV x).1:=by
 unfold A8 at h|-;by_cases a':(EV x).2=0
 ·rw[V O]at h|-;by_cases be:Cn T (EV x).1=0
  ·rw[V O];exact⟨be,rfl⟩
  ·exact NX
 ·exact LQ
theorem Adv{T:Y}:∀(X:List (List Int)) (k:Nat),(Dw T k X).2.2=0->(∀y∈(Dw T k X).1,Cn T y=0)/\(Dw T k X).1.length=X.length/\(Dw T k X).2.1=0
 | [],k,_=>by simp[Dw]
 | x::r,k,h=>by
  rw[Dw]at h|-;by_cases a':(A8 T x).2=0
  ·rw[V O]at h|-;by_cases be:(Dw T (k+1) r).2.2=0
   ·rw[V O];obtain⟨b,c,q⟩:=Adv r (k+1) be;refine⟨λy m=>?_,by simp[c],rfl⟩;rcases AX.1 m with e|e
    ·rw[e];exact(Tv a').1
    ·exact b y e
   ·exact NX
  ·exact LQ
def Arw{T:Y}{m:List Int}(h:(DX T m).2.2=0):(∀y∈(DX T m).1,Cn T y=0)/\(Cu T (DX T m).1).2=0/\(DX T m).1≠[]/\DX T m=((DX T m).1,0,0):=by
 unfold DX at h|-;by_cases a':(Dw T 0 (AU m)).2.2=0
 ·rw[V O]at h|-;by_cases be:(Cu T (Dw T 0 (AU m)).1).2=0
  ·rw[V O];obtain⟨c,b,k⟩:=Adv _ _ a';refine⟨c,be,λe=>?_,rfl⟩;have e:(Dw T 0 (AU m)).1=[]:=e;rw[e]at b;have:=Ab9 m;simp at b;omega
  ·exact NX
 ·exact LQ
def Ae5{T:Y}{l:List Int}(h:(Ga T l).2.2=0):Ga T l=DX T (BU T (Bl T l).1)/\(Bl T l).2.2=0/\Bu T (Bl T l).1=0:=by
 unfold Ga at h|-;by_cases a':(Bl T l).2.2=0
 ·rw[V O]at h|-;by_cases be:Bu T (Bl T l).1=0
  ·rw[V O];exact⟨rfl,a',be⟩
  ·exact NX
 ·exact LQ
def OR{T:Y}{s:List UInt8}(h:(A9 T s).2.2=0):Av T=0/\s≠[]/\(Bo s).2.2=0/\A9 T s=Ga T (Bo s).1/\(∀y∈(A9 T s).1,Cn T y=0)/\(Cu T (A9 T s).1).2=0/\(A9 T s).1≠[]/\A9 T s=((A9 T s).1,0,0):=by
 unfold A9 at h|-;by_cases e:Av T=0
 ·rw[V O]at h|-;by_cases b:s=[]
  ·rw[N b]at h;simp at h
  ·rw[V b]at h|-;by_cases c:(Bo s).2.2=0
   ·rw[V O]at h|-;have k:=Ae5 h;rw[k.1]at h;obtain⟨m,q,A,C⟩:=Arw h;refine⟨e,b,c,rfl,?_,?_,?_,?_⟩<;>rw[k.1]<;>first|exact m|exact q|exact A|exact C
   ·rw[N c]at h;exact absurd h c
 ·rw[N e]at h;simp at h
def LL:Y:=⟨[],[],[],[],[],[],[],[],[],[],[],[]⟩
end Go.Proofs.YtblcoicaeeiojaaGreatDoor
namespace Go.Proofs.YtblcoicaeeiojaaGreatDoor
open Go.RowKit
def Aow(x:TV)(T:Y)(c:Int)(z:Int)(w:World)(b:Ah w x T)(h:AH 0 T.al=true)(m:Hid (D_ T c=z)):Calls prog 273 #[x.agg,.int .i64 c] w (Ar (.int .i64 z) w):=by
 have ac:=U (Am.new b);have k:=ac.out.bF;have q:=U h;clear h;clear b;simp only[TV.agg];go_enter func273,ntmps273;go_wp2_with fail;refine(Pe x.a2 T.al c 0 z _ ac.out.tab.al q.out m).mono ?_;exact Ah4
def T6(x:TV)(T:Y)(c:Int)(z:Int)(w:World)(b:Ah w x T)(h:Hid (D_ T c=z)):Calls prog 189 #[x.agg,.int .i64 c] w (Ar (.int .i64 z) w):=by
 have ac:=U (Am.new b);have k:=ac.out.bF;clear b;simp only[TV.agg];go_enter func189,ntmps189;go_wp2_with fail;refine(Mx x.a2 T.al c z _ ac.out.tab.al h).mono ?_;exact Ah4
def Asw(x:TV)(T:Y)(c:Int)(xs:List Int)(w:World)(q:Ah w x T)(s:Hid (FP T c=xs)):Calls prog 54 #[x.agg,.int .i64 c] w (MX xs w):=by
 have ac:=U (Am.new q);have k:=ac.out.at8;clear q;simp only[TV.agg];by_cases b:65<=c/\c<=90
 ·obtain⟨ad,am⟩:=b;have eh:Hid (xs=[c+32]):=by unfold Hid;rw[<-s.out,FP,N (Hg.2 ⟨ad,am⟩)]
  have bs:IntKind.i64.wrap (c+32)=c+32:=AT _ O;go_enter func54,ntmps54;exact AyU
 ·have eh:Hid (As T.map c=xs):=by unfold Hid;rw[<-s.out,FP,V (λh=>b (Hg.1 h))]
  have A:(Calls prog 82 #[x.a8,.int .i64 c] (w.alloc (.cells (AG x) 26)) (MX xs (w.alloc (.cells (AG x) 26)))):=Mu x.a8 T.map c xs _ ac.out.tab.map eh;have a9:=U A;have m:c<65\/90<c:=O;clear b A;rcases m with m|m
  rotate_left
  have bt:65<=c:=O
  all_goals
   go_enter func54,ntmps54;go_wp2_with fail;refine a9.out.mono ?_;rintro e w1 ⟨a',ba,bb,rfl,C,F,G,L⟩;have bc:=U (ac.out.step L);have bd:=U G;have be:=U C;have bl:=U F;clear L k G C F;go_wp2;go_ret;exact⟨a',ba,bb,rfl,be.out,bl.out,bd.out,bc.out.ab⟩
def AkB(x:TV)(T:Y)(c z:Int)(w:World)(h:Ah w x T)(m:AH 0 T.ak=true)(F:Hid (B_ T c=z)):Calls prog 170 #[x.agg,.int .i64 c] w (Ar (.int .i64 z) w):=by
 have ac:=U ((Am.new h).step (Bx _));have k:=(Am.new h).aQ;have G:=U m;obtain⟨q,L⟩:∃z,Hid (Fs c=z):=⟨_,rfl⟩;obtain⟨b,s⟩:∃z,Hid (FO c=z):=⟨_,rfl⟩;obtain⟨A,ad⟩:∃z,Hid (Gt c=z):=⟨_,rfl⟩;obtain⟨C,am⟩:∃z,Hid (F4 c=z):=⟨_,rfl⟩;have a9:Hid ((val T.ak c).getD b=z):=by unfold Hid;rw[<-F.out,<-s.out];rfl
 have a':∀w,(Instr.field 185 (.agg #[.int .i64 q,.int .i64 b,.int .i64 A,.int .i64 C]) 1).run prog w=.ok (.int .i64 b) w:=λ_=>Ax;clear h m;simp only[TV.agg];go_enter func170,ntmps170;go_wp2_with fail;go_region_held3 (λw'=>w'.cell? ⟨w.heap.size,3,none⟩=some x.a3)
  (first
   | go_keep
   | exact((ac.out.step dK).step eS).aQ
   | exact(ac.out.step dK).aQ)
  (first
   | (go_at_call 221;(with_reducible refine(Tj c q b A C _ L s ad am).mono ?_);rintro e w2 ⟨rfl,dK⟩)
   | (go_at_call 220;(with_reducible refine(Pe x.a3 T.ak c b z _ (ac.out.step dK).tab.ak G.out a9).mono ?_);rintro e w3 ⟨rfl,eS⟩))
 all_goals
  exact YA
def Aqi(T:Y)(l:List Int):(opens T l).length=l.length:=by simp[opens]
def Aqh(T:Y)(l:List Int)(k:Nat)(b:k<l.length):Gy (opens T l) k=decide ((l.map (Ao T)).getD k 0≠0):=by
 unfold Gy opens;simp[List.getD,CI b]
def Ap5(b:List Bool)(k:Nat):decide ((Ez b k).length%2=1)=IV b k:=by
 rw[Al_];cases IV b k<;>simp
def O3(x:TV)(T:Y)(p:Option Addr)(cap:Nat)(ao:List Int)(E:Int)(L:List Int)(w:World)(bv:Ah w x T)(bx:Bi w)(b0:Aq w p ao)(b1:ao.length<=17592186043904)(cr:Hid (AB T ao=E))(b2:Hid (LF T ao=L)):Calls prog 169 #[x.agg,.slice p ao.length cap] w (M0 L E w):=by
 have ac:=U (Am.new bv);have cs:=U b0;have ct:=U bx;obtain⟨b,f3⟩:∃b,Hid (Oo T ao=b):=⟨_,rfl⟩;obtain⟨n,G⟩:∃n,ao.length=n:=⟨_,rfl⟩;have am:=λW cu cv dI=>AbM x T p cap ao E b W cu cv dI b1 cr f3;rw[G]at b1 am|-;have h:=U G;have cx:=U am;clear bv bx b0 G am;simp only[TV.agg];go_enter func169,ntmps169;obtain⟨⟨b3,b4,b5,b6,b7,b8⟩,⟨b9,b',ca,cb,cc,cd⟩⟩:=ac.out.box.load;go_wp2_with fail;refine(cx.out _ ac.out.tab (ct.out.below ac.out.ab) (cs.out.below ac.out.ab)).mono ?_;rintro e w1 ⟨c2,rfl,a9,a'⟩;replace ac:=U (ac.out.step a');by_cases q:E=0
 ·subst q;have c3:Hid (Av T=0):=(CN cr.out).1;have c4:n<=4096:=by rw[<-h.out];exact(CN cr.out).2.1
  have ce:Hid (b=ao.map (Ao T)):=AwI;obtain⟨fg,ba⟩:∃fg,Hid (opens T ao=fg):=⟨_,rfl⟩;have s:Hid (L=O1 fg):=by unfold Hid;rw[<-b2.out,<-ba.out];unfold LF;rw[cr.out,N rfl]
  have cf:Hid (fg.length=n):=by unfold Hid;rw[<-ba.out,Aqi];exact h.out
  obtain⟨c5,c6,cg,ci⟩:=a9.ap;have bb:b.length=n:=by rw[ce.out,C6];exact h.out
  rw[bb]at cg;subst cg;have cy:=U ci;have cA:=U bb;clear bb ci a9 a' b3 b4 b5 b6 b7 b8 b9 b' ca cb cc cd;go_wp2;go_loopw[8,9,10,22] (λv _ _ i wr=>∃k:Nat,k<=n/\i=.int .i64 k/\Hid (Ak wr w1.heap.size v (Ez fg k))/\Hid (Below w1.heap.size w1 wr)) (λ_ _ _ i _=>n-(intOf i).toNat)
  case atStart=>exact⟨0,Au _,rfl,Ak.nil _ _,Al _ _⟩
  case round=>
   obtain⟨k,c7,rfl,cq,ad⟩:=hrel;obtain⟨A,C⟩:∃A,Ez fg k=A:=⟨_,rfl⟩;have bc:=Nf fg k;rw[C]at cq bc;obtain⟨B,bd⟩:∃B,Hid (IV fg k=B):=⟨_,rfl⟩;have F:=Ap5 fg k;rw[C,bd.out]at F;have cB:A.length<=4097:=by rw[<-C];exact Af (Acv fg k) O
   obtain⟨pb,kO,cC,cD⟩:=cq.out.ap;subst cC;obtain⟨m,be⟩:∃m,A.length=m:=⟨_,rfl⟩;rw[be]at F cB cq|-;have ei:=U be;have cj:=U F;have hO:=U bc;clear cD C bc F be;by_cases cl:k<n
   ·obtain⟨c8,c',rfl,cF⟩:=(cy.out.below ad.out) k (by rw[cA.out];exact cl);obtain⟨c,bl⟩:∃c,b.getD k 0=c:=⟨_,rfl⟩;rw[bl]at cF;have cm:Gy fg k=decide (c≠0):=by rw[<-ba.out,Aqh T ao k (by rw[h.out];exact cl),<-ce.out,bl]
    obtain⟨D,cI⟩:∃D,(c !=0)=D:=⟨_,rfl⟩;have co:Gy fg k=D:=by rw[cm,<-cI,Gd];simp
    have lj:Hid (G6 fg k=(B !=D)):=by unfold Hid G6;rw[bd.out,co]
    clear bl cm co;go_wp2_with fail;refine(Adc pb m kO B _ cj O).mono ?_;rintro e w3 ⟨rfl,rfl⟩;cases B with
    | false =>
     cases D with
     | false =>
      exact Ax6
     | true =>
      exact AzW
    | true =>
     cases D with
     | false =>
      exact AzW
     | true =>
      exact Ax6
   ·obtain rfl:k=n:=by omega
    have lj:Hid (G6 fg k=B):=by
     have:Gy fg k=false:=by rw[<-cf.out];exact Aez fg
     unfold Hid G6;rw[bd.out,this];simp
    have bs:O1 fg=A++if G6 fg k then [(k:Int)]else []:=by
     unfold O1;rw[cf.out];exact hO.out
    rw[lj.out]at bs;have cp:=U bs;clear bs;go_wp2_with fail;refine(Adc pb m kO B _ cj O).mono ?_;rintro e w3 ⟨rfl,rfl⟩;cases B with
    | false =>
     have bt:Hid (L=A):=by unfold Hid;rw[s.out,cp.out];simp
     go_wp2;go_ret2;exact⟨_,rfl,by rw[bt.out];exact cq.out.mono ac.out.ab.size,ac.out.ab.trans (ad.out.mono ac.out.ab.size)⟩
    | true =>
     have bt:Hid (L=A++[(k:Int)]):=by unfold Hid;rw[s.out,cp.out];simp
     have iM:=ad.out.size;go_wp2_with (at_builtin;(refine Pg (.tmp 39) (.tmp 42) rfl rfl w1.heap.size (.slice pb m kO) A rfl cq.out k 1 _ rfl J UF iM ?_);intro mS w3 c9 eg);have cO:=U c9;have f':Hid (Below w1.heap.size w1 w3):=L9 ad.out cq.out (Ac _) eg;clear c9 eg iM;go_wp2;go_ret2;exact⟨_,rfl,by rw[bt.out];exact cO.out.mono ac.out.ab.size,ac.out.ab.trans (f'.out.mono ac.out.ab.size)⟩
 ·have da:(E !=0)=true:=by simp[q]
  have s:Hid (L=[]):=by unfold Hid;rw[<-b2.out];unfold LF;rw[cr.out,V q]
  clear q a9 a' b3 b4 b5 b6 b7 b8 b9 b' ca cb cc cd;go_wp2;go_ret2;rw[s.out];exact RK
def Jt(L:List Int)(n:Nat):List Int:=L++List.replicate (n-L.length) 0
def AqU(n:Nat):Jt [] n=List.replicate n 0:=by simp[Jt]
def AqT(L:List Int)(n:Nat)(h:n<=L.length):Jt L n=L:=by unfold Jt;rw[Nat.sub_eq_zero_of_le h];simp
def AqV(L:List Int)(n:Nat)(c:Int)(h:L.length<n):(Jt L n).set L.length c=Jt (L++[c]) n:=by
 unfold Jt;rw[PO,V O,MU];exact AyK
def AqS(L:List Int)(n:Nat)(t:IntKind)(h:L.length<n):((Jt L n).map (Value.int t))[L.length]? = some (.int t 0):=by
 unfold Jt;exact AyX
def Qx(T:Y)(l:List Int)(k:Nat)(b:k<l.length):(l.map (D_ T)).getD k 0=D_ T (l.getD k 0):=by simp[List.getD,b]
def Aom(l:List Int)(k:Nat)(h:k<l.length):l.drop k=l.getD k 0::l.drop (k+1):=by rw[EP h];simp[h]
def Aoz(x:TV)(T:Y)(p:Option Addr)(cap:Nat)(ao:List Int)(E:Int)(w:World)(c:Ah w x T)(h:Bi w)(k:Aq w p ao)(m:ao.length<=17592186043904)(s:Hid (AB T ao=E)):Calls prog 235 #[x.agg,.slice p ao.length cap] w (Ar (.int .i64 E) w):=by
 obtain⟨A,C⟩:∃L,Hid (LF T ao=L):=⟨_,rfl⟩;have b:=λW (F:Ah W x T) G ad=>O3 x T p cap ao E A W F G ad m s C;have dm:=U h;have ac:=U (Am.new c);have dG:=U k;obtain⟨n,q⟩:∃n,ao.length=n:=⟨_,rfl⟩;rw[q]at m b|-;have iL:=U b;clear c k q h b;simp only[TV.agg];go_enter func235,ntmps235;exact UY
def AoB(x:TV)(T:Y)(p:Option Addr)(n cap:Nat)(ao L:List Int)(w:World)(bl:Ah w x T)(bs:AH 0 T.al=true)(bt:Aq w p ao)(bx:Hid (ao.length=n))(cA:n<=4096)(df:Hid (ao.map (D_ T)=L)):Calls prog 236 #[x.agg,.slice p n cap] w λe w'=>∃q c,e=.returned (.slice q n c)/\Aq w' q L/\Below w.heap.size w w':=by
 obtain⟨b7,dI,b8,b9,dE⟩:=Cp info3;have F:=U (Am.new bl);have b':=U bt;have eu:Hid (L.length=n):=YL;have ca:=U bs;clear bl bt bs;simp only[TV.agg];go_enter func236,ntmps236;go_upto_region 1 with(fail);have G:=U F.out.ab;generalize ac:(w.alloc (.cells (AG x) 26))=h at F G;simp only[AG]at ac
 try rw[ac]
 clear ac;go_wp2_with (at_make;refine PI _ rfl _ _ 22 rfl h.heap.size 3 b7 (.int .i64 0) 1 underlying22 dI b8 b9 .i64 .i64 _ _ n rfl rfl rfl rfl I3 BQ (Ac _) ?_;intro w0 ad bv);have b0:w0.ownsRow h.heap.size 3 1 (.slice (some ⟨h.heap.size,0,none⟩) n n) n ((Jt [] n).map (.int .i64)):=by
  have e:(madeCells (Value.int .i64 0).cells (n*1)).toList=List.replicate (n*1) (.int .i64 0):=PH _ _;rw[e]at ad;simpa[AqU] using ad
 have b1:Below h.heap.size h w0:=(Al _ _).grown bv (Ac _) J;have cb:=U b0;have cc:=U b1;clear b0 b1 ad bv;go_wp2;go_loopw[13] (λi wr=>∃k:Nat,k<=n/\i=.int .i64 k/\Hid (wr.ownsRow h.heap.size 3 1 (.slice (some ⟨h.heap.size,0,none⟩) n n) n ((Jt (L.take k) n).map (.int .i64)))/\Hid (Below h.heap.size h wr)) (λi _=>n-(intOf i).toNat)
 case atStart=>exact⟨0,Au _,rfl,cb,cc⟩
 case round=>
  obtain⟨k,cB,rfl,s,m⟩:=hrel;have A:=U (F.out.step m.out);by_cases ee:k<n
  ·have am:k<ao.length:=by rw[bx.out];exact ee
   obtain⟨b,ff,rfl,b2⟩:=(b'.out.below A.out.ab) k am;obtain⟨c,a9⟩:∃c,ao.getD k 0=c:=⟨_,rfl⟩;rw[a9]at b2;obtain⟨z,b3⟩:∃z,Hid (D_ T c=z):=⟨_,rfl⟩;have b4:L.take (k+1)=L.take k++[z]:=by
    rw[C4 L k Ah9,<-df.out,Qx T ao k am,a9,b3.out]
   have cd:=U b4;clear a9 b4 am;obtain⟨⟨ce,cf,cg,ci,cj,cl⟩,⟨cm,co,cp,cq,cr,cs⟩⟩:=A.out.box.load;go_wp2_with fail;refine(Aow x T c z _ A.out.tab ca.out b3).mono ?_;rintro e cC ⟨rfl,a'⟩;have C:=Kq s.out a';have ba:(L.take k).length=k:=by rw[GL,eu.out];omega
   have ct:=C.cellAt k O;have bb:=AqS (L.take k) n .i64 O;rw[ba]at bb;rw[bb]at ct;have cD:=C.frozenAt k;have bc:=C.stored k (.int .i64 z);have bd:=AqV (L.take k) n z O;rw[ba,<-cd.out]at bd;rw[<-KV,bd]at bc;have cu:=U bc.1;have cv:=U ((m.out.trans (a'.mono m.out.size)).setCell (p:=⟨h.heap.size,k,none⟩) (Ac _) (.int .i64 z));clear bc s C bb ba bd m a' A b2;clear ce cf cg ci cj cl cm co cp cq cr cs;go_wp2;go_roundw
   case rel=>exact⟨k+1,O,An,cu,cv⟩
   case measure=>first|(simp[intOf];done)|(simp[intOf];omega)
  ·obtain rfl:k=n:=by omega
   have be:=s.out;rw[AO Pm,AqT _ _ Pm]at be;have b5:Ak wr h.heap.size (.slice (some ⟨h.heap.size,0,none⟩) k k) L:=by
    unfold Ak;rw[eu.out];exact be
   obtain⟨q,c,e,b6⟩:=b5.ap;injection e with cx cF cI;subst cx;have cy:=U b6;clear be s b5 b6;go_wp2;go_ret;exact⟨_,_,rfl,cy.out,G.out.trans (m.out.mono (by have:=G.out.size;exact this))⟩
def Aoo(T:Y)(ao L:List Int)(q:Option Addr)(n c m:Nat)(R:Int)(w:World)(G:Aq w q L)(df:Hid (ao.map (D_ T)=L))(bx:Hid (ao.length=n))(bt:m<n)(bv:n<=4096)(a9:Hid (EE (Ed T ao m)=R)):Calls prog 288 #[.slice q n c,.int .i64 m,.int .i64 (-1)] w (Ar (.int .i64 R) w):=by
 have a':=U G;have ba:Hid (L.length=n):=YL;clear G;go_enter func288,ntmps288;have bb:IntKind.i64.wrap ((m:Int) + -1)=(m:Int)-1:=(AT _ O).trans O;go_wp2;go_loopw[7] (λa wr=>∃k:Nat,k<=m/\a=.int .i64 ((k:Int)-1)/\Hid (EE (Ed T ao k)=R)/\Hid (Below w.heap.size w wr)) (λa _=>(intOf a+1).toNat)
 case atStart=>exact⟨m,Ac _,by first|rfl|(rw[bb])|(congr 1;omega),a9,U (Al _ _)⟩
 case round=>
  obtain⟨bc,b0,rfl,A,ad⟩:=hrel;cases bc with
  | zero =>
   have C:(((0:Nat):Int)-1) = -1:=rfl;rw[C];have bd:decide ((0:Int)<=-1)=false:=rfl;have iN:Hid (R = -1):=by unfold Hid;rw[<-A.out];rfl
   exact YI
  | succ k =>
   have C:(((k+1:Nat):Int)-1)=(k:Int):=O;rw[C];have bd:decide ((0:Int)<=(k:Int))=true:=At O;have b1:decide ((k:Int)<(n:Int))=true:=At O;have ac:k<ao.length:=Zn;obtain⟨b,ff,rfl,be⟩:=(a'.out.below ad.out) k (by rw[ba.out];omega);obtain⟨z,F⟩:∃z,L.getD k 0=z:=⟨_,rfl⟩;rw[F]at be;have am:D_ T (ao.getD k 0)=z:=by rw[<-F,<-df.out,Qx T ao k ac]
   have s:Hid ((if z=5 then EE (Ed T ao k) else(k:Int))=R):=by
    unfold Hid;rw[<-A.out,Ed];unfold Hv;rw[am];by_cases h:z=5<;>simp[h,EE]
   have b2:(0:Int)<=(k:Int):=O;have b3:(k:Int)<(n:Int):=O;have bl:IntKind.i64.wrap ((k:Int) + -1)=(k:Int)-1:=(AT _ O).trans O;clear F am A ac;by_cases e:z=5
   ·have bs:(z !=5)=false:=by simp[e]
    have iN:Hid (EE (Ed T ao k)=R):=by unfold Hid;rw[<-s.out,N e]
    clear e s;go_wp2;go_roundw
    case rel=>exact⟨k,O,by first|rfl|(rw[bl])|(congr 1;omega),iN,ad⟩
    case measure=>first|(simp[intOf];done)|(simp[intOf];omega)
   ·have bs:(z !=5)=true:=by simp[e]
    have iN:Hid (R=(k:Int)):=by unfold Hid;rw[<-s.out,V e]
    clear e s;exact YI
def Aop(T:Y)(ao L:List Int)(q:Option Addr)(n c m:Nat)(R:Int)(w:World)(F:Aq w q L)(df:Hid (ao.map (D_ T)=L))(bx:Hid (ao.length=n))(bd:m<n)(be:n<=4096)(ac:Hid (EE (FT T (m+1) (ao.drop (m+1)))=R)):Calls prog 288 #[.slice q n c,.int .i64 m,.int .i64 1] w (Ar (.int .i64 R) w):=by
 have am:=U F;have eu:Hid (L.length=n):=YL;clear F;go_enter func288,ntmps288;have a9:IntKind.i64.wrap ((m:Int)+1)=((m+1:Nat):Int):=(AT _ O).trans O;go_wp2;go_loopw[7] (λa wr=>∃j:Nat,m+1<=j/\j<=n/\a=.int .i64 (j:Int)/\Hid (EE (FT T j (ao.drop j))=R)/\Hid (Below w.heap.size w wr)) (λa _=>n-(intOf a).toNat)
 case atStart=>exact⟨m+1,Ac _,O,by first|rfl|(rw[a9])|(congr 1;omega),ac,U (Al _ _)⟩
 case round=>
  obtain⟨j,bl,bs,rfl,s,ad⟩:=hrel;have bt:decide ((0:Int)<=(j:Int))=true:=At O;by_cases ee:j<n
  ·have a':decide ((j:Int)<(n:Int))=true:=At O;have A:j<ao.length:=by rw[bx.out];exact ee
   obtain⟨b,ff,rfl,ba⟩:=(am.out.below ad.out) j Ah9;obtain⟨z,C⟩:∃z,L.getD j 0=z:=⟨_,rfl⟩;rw[C]at ba;have G:D_ T (ao.getD j 0)=z:=by rw[<-C,<-df.out,Qx T ao j A]
   have k:Hid ((if z=5 then EE (FT T (j+1) (ao.drop (j+1))) else(j:Int))=R):=by
    unfold Hid;rw[<-s.out,Aom ao j A,FT];unfold Hv;rw[G];by_cases h:z=5<;>simp[h,EE]
   have bv:(0:Int)<=(j:Int):=O;have b0:(j:Int)<(n:Int):=O;have bb:IntKind.i64.wrap ((j:Int)+1)=((j+1:Nat):Int):=(AT _ O).trans O;clear C G s A;by_cases e:z=5
   ·have bc:(z !=5)=false:=by simp[e]
    have iN:Hid (EE (FT T (j+1) (ao.drop (j+1)))=R):=by unfold Hid;rw[<-k.out,N e]
    clear e k;go_wp2;go_roundw
    case rel=>exact⟨j+1,O,O,by first|rfl|go_num|(rw[bb]),iN,ad⟩
    case measure=>first|(simp[intOf];done)|(simp[intOf];omega)
   ·have bc:(z !=5)=true:=by simp[e]
    have iN:Hid (R=(j:Int)):=by unfold Hid;rw[<-k.out,V e]
    clear e k;exact YI
  ·obtain rfl:j=n:=by omega
   have a':decide ((j:Int)<(j:Int))=false:=Ai O;have iN:Hid (R = -1):=by unfold Hid;rw[<-s.out,Vc H6];rfl
   exact YI
def Aoq(z:Int)(B:Bool)(w:World)(ef:Hid ((decide (z=1)||decide (z=3))=B)):Calls prog 289 #[.int .i64 z] w (Ar (.bool B) w):=by
 by_cases a':z=1
 ·subst a';obtain rfl:B=true:=Zq;clear ef;go_enter func289,ntmps289;exact Hx
 ·have b:(z==1)=false:=by simp[a']
  obtain rfl:B=(z==3):=AwT;clear ef a';go_enter func289,ntmps289;exact Hx
def Aox(z:Int)(B:Bool)(w:World)(ef:Hid ((decide (z=2)||decide (z=3))=B)):Calls prog 290 #[.int .i64 z] w (Ar (.bool B) w):=by
 by_cases a':z=2
 ·subst a';obtain rfl:B=true:=Zq;clear ef;go_enter func290,ntmps290;exact Hx
 ·have b:(z==2)=false:=by simp[a']
  obtain rfl:B=(z==3):=AwT;clear ef a';go_enter func290,ntmps290;exact Hx
def Aok(T:Y)(ao L:List Int)(q:Option Addr)(n c m:Nat)(R:Bool)(w:World)(bc:Aq w q L)(df:Hid (ao.map (D_ T)=L))(bx:Hid (ao.length=n))(a9:m<n)(be:n<=4096)(A:Hid (Fl T ao m=R)):Calls prog 274 #[.slice q n c,.int .i64 m] w (Ar (.bool R) w):=by
 have G:=U bc;have bl:Hid (L.length=n):=YL;obtain⟨a,C⟩:∃a,Hid (EE (Ed T ao m)=a):=⟨_,rfl⟩;obtain⟨d,eN⟩:∃d,Hid (EE (FT T (m+1) (ao.drop (m+1)))=d):=⟨_,rfl⟩;clear bc;go_enter func274,ntmps274;go_wp2_with fail;refine(Aoo T ao L q n c m a _ G.out df bx a9 be C).mono ?_;rintro e w1 ⟨rfl,bs⟩;have ac:=U bs;clear bs;go_wp2_with fail;refine(Aop T ao L q n c m d _ (G.out.below ac.out) df bx a9 be eN).mono ?_;rintro e w2 ⟨rfl,bt⟩;have cx:=U (ac.out.trans (bt.mono ac.out.size));clear bt ac;cases k:Ed T ao m with
 | none =>
  obtain rfl:a = -1:=by rw[<-C.out,k];rfl
  obtain rfl:R=false:=by rw[<-A.out];unfold Fl;rw[k]
  clear C eN A k;exact YV
 | some s =>
  obtain rfl:a=(s:Int):=by rw[<-C.out,k];rfl
  have bv:s<n:=Nat.lt_trans ((WS T ao m s).1 k).1 a9;have ca:((s:Int) != -1)=true:=by rw[bne_iff_ne];omega
  have a0:(0:Int)<=(s:Int):=O;have a1:(s:Int)<(n:Int):=O;obtain⟨cb,cc,rfl,b0⟩:=(G.out.below cx.out) s (by rw[bl.out];exact bv);obtain⟨ad,a'⟩:∃z,L.getD s 0=z:=⟨_,rfl⟩;rw[a']at b0;have b7:Hid (D_ T (ao.getD s 0)=ad):=by unfold Hid;rw[<-a',<-df.out,Qx T ao s (by rw[bx.out];exact bv)]
  obtain⟨ba,b1⟩:∃B,Hid ((decide (ad=1)||decide (ad=3))=B):=⟨_,rfl⟩;have b2:Hid (Tq T (ao.getD s 0)=ba):=by unfold Hid Tq;rw[b7.out];exact b1.out
  clear C a';go_wp2_with fail;refine(Aoq ad ba _ b1).mono ?_;rintro e w3 ⟨rfl,b3⟩;replace cx:=U (cx.out.trans (b3.mono cx.out.size));clear b3 b0;cases ba with
  | false =>
   obtain rfl:R=false:=by
    rw[<-A.out];unfold Fl;rw[k];cases Kw T ao m with
    | none=>rfl
    | some b=>simp only;rw[b2.out];rfl
   clear eN A k;exact YV
  | true =>
   cases bd:Kw T ao m with
   | none =>
    obtain rfl:d = -1:=AwR;obtain rfl:R=false:=by rw[<-A.out];unfold Fl;rw[k,bd]
    clear eN A k bd;exact YV
   | some hQ =>
    obtain rfl:d=(hQ:Int):=AwR;have b4:hQ<n:=by have:=((AfK T ao m hQ).1 bd).2.1;rw[bx.out]at this;exact this
    have cd:((hQ:Int) != -1)=true:=by rw[bne_iff_ne];omega
    have ce:(0:Int)<=(hQ:Int):=O;have cf:(hQ:Int)<(n:Int):=O;obtain⟨cg,ci,F,b5⟩:=(G.out.below cx.out) hQ (by rw[bl.out];exact b4);injection F with F;injection F with F b8 _;subst F;subst b8;obtain⟨am,bb⟩:∃z,L.getD hQ 0=z:=⟨_,rfl⟩;rw[bb]at b5;have b9:Hid (D_ T (ao.getD hQ 0)=am):=by unfold Hid;rw[<-bb,<-df.out,Qx T ao hQ (by rw[bx.out];exact b4)]
    have b':Hid ((decide (am=2)||decide (am=3))=R):=by
     unfold Hid;rw[<-A.out];unfold Fl;rw[k,bd];simp only;rw[b2.out,BG];unfold WD;rw[b9.out]
    clear eN bb A k bd;go_wp2_with fail;refine(Aox am R _ b').mono ?_;rintro e cj ⟨rfl,b6⟩;replace cx:=U (cx.out.trans (b6.mono cx.out.size));clear b6 b5;exact YV
def Aon(x:TV)(T:Y)(p:Option Addr)(n cap:Nat)(ao L:List Int)(q:Option Addr)(ma m:Nat)(R:Bool)(w:World)(cx:Ah w x T)(cy:AH 0 T.ai=true)(cA:Aq w p ao)(cB:Aq w q L)(df:Hid (ao.map (D_ T)=L))(bb:Hid (ao.length=n))(er:m<n)(cl:n<=4096)(cC:Hid (F' T ao m=R)):Calls prog 237 #[x.agg,.slice p n cap,.slice q n ma,.int .i64 m] w (Ar (.bool R) w):=by
 have ac:=U (Am.new cx);have b3:=U cA;have j':=U cB;have cD:=U cy;have c6:=bb.out;clear cx cA cB cy;simp only[TV.agg];go_enter func237,ntmps237;go_upto_region 1 with(fail);generalize b6:(w.alloc (.cells (AG x) 26))=k at ac;simp only[AG]at b6
 try rw[b6]
 clear b6;have cF:m<ao.length:=NY;obtain⟨b,ff,rfl,cI⟩:=(b3.out.below ac.out.ab) m cF;obtain⟨s,b7⟩:∃c,ao.getD m 0=c:=⟨_,rfl⟩;rw[b7]at cI;have b4:Hid (R=if s≠8204/\s≠8205 then true else IK T ao m||(decide (s=8204)&&Fl T ao m)):=by unfold Hid;rw[<-cC.out];unfold F';rw[b7]
 have c7:(0:Int)<=(m:Int):=O;have c8:(m:Int)<(n:Int):=O;clear cC b7;by_cases ad:s=8204
 ·subst ad;by_cases am:m=0
  ·have me:Hid (IK T ao m=false):=by unfold Hid IK;rw[Ai O];rfl
   have jl:Hid (R=(decide ((8204:Int)=8204)&&Fl T ao m)):=Azx;have b8:decide ((0:Int)<(m:Int))=false:=Ai O;have b9:¬0<m:=O;clear am;go_upto_region 5 with(fail);refine DG Ax Ax ?_
   repeat (go_big_quiet_step (fail))
   refine wpQuiet_nil ?_;intro _ A;obtain⟨pq,C⟩:=A;subst C;have dF:=U (ac.out.step (Dx k pq));generalize Cf k pq=b' at dF|-;exact Ax8
  ·obtain⟨eH,ca⟩:∃j,j+1=m:=⟨m-1,O⟩;obtain⟨cO,c2,h,F⟩:=(b3.out.below ac.out.ab) eH O;injection h with h;injection h with h cb _;subst h;subst cb;obtain⟨a9,hY⟩:∃c,ao.getD eH 0=c:=⟨_,rfl⟩;rw[hY]at F;obtain⟨z,b5⟩:∃z,Hid (Ao T a9=z):=⟨_,rfl⟩;have l':Hid (IK T ao m=decide (z=9)):=Awp;have kP:Hid (R=(decide (z=9)||(decide ((8204:Int)=8204)&&Fl T ao m))):=AzH;have b8:decide ((0:Int)<(m:Int))=true:=At O;have b9:0<m:=O;have c3:(0:Int)<=(eH:Int):=O;have c4:(eH:Int)<(n:Int):=O;have c5:(m:Int)-1=(eH:Int):=O;have h:IntKind.i64.wrap (eH:Int)=(eH:Int):=AT _ O;go_upto_region 5 with(fail);have cc:=λp=>Aj F p;have G:=λp=>Dm (p:=p) λcd ce=>Hn x T a9 z cd (ac.out.tab.below ce) cD.out b5;simp only[TV.agg]at G;have cf:=U G;clear G hY F ca am;obtain⟨⟨a',ba,bc,bd,be,bl⟩,⟨bs,bt,bv,bx,b0,b1⟩⟩:=ac.out.box.load;have cg:=λp=>Aj a' p;have ci:=λp=>Aj ba p;have cj:=λp=>Aj bc p;have cm:=λp=>Aj bd p;have co:=λp=>Aj be p;have cp:=λp=>Aj bl p;have cq:=λp=>Aj bs p;have cr:=λp=>Aj bt p;have cs:=λp=>Aj bv p;have ct:=λp=>Aj bx p;have cu:=λp=>Aj b0 p;have cv:=λp=>Aj b1 p;clear a' ba bc bd be bl bs bt bv bx b0 b1;refine DG Ax Ax ?_
   repeat (go_big_quiet_step ((go_at_call 155;with_reducible exact cf.out _)))
   refine wpQuiet_nil ?_;intro _ A;obtain⟨pq,C⟩:=A;subst C;have dF:=U (ac.out.step (Dx k pq));generalize Cf k pq=b' at dF|-;clear cg ci cj cm co cp cq cr cs ct cu cv cc;by_cases fm:z=9
   ·exact AyH
   ·have mc:(z==9)=false:=by simp[fm]
    have jl:Hid (R=(decide ((8204:Int)=8204)&&Fl T ao m)):=by unfold Hid;rw[kP.out,Ai fm,FE]
    clear fm;exact Ax8
 ·by_cases b2:s=8205
  ·subst b2;clear ad;by_cases am:m=0
   ·have me:Hid (IK T ao m=false):=by unfold Hid IK;rw[Ai O];rfl
    have jl:Hid (R=(decide ((8205:Int)=8204)&&Fl T ao m)):=Azx;have b8:decide ((0:Int)<(m:Int))=false:=Ai O;have b9:¬0<m:=O;clear am;go_upto_region 5 with(fail);refine DG Ax Ax ?_
    repeat (go_big_quiet_step (fail))
    refine wpQuiet_nil ?_;intro _ A;obtain⟨pq,C⟩:=A;subst C;have dF:=U (ac.out.step (Dx k pq));generalize Cf k pq=b' at dF|-;exact AAA
   ·obtain⟨eH,ca⟩:∃j,j+1=m:=⟨m-1,O⟩;obtain⟨cO,c2,h,F⟩:=(b3.out.below ac.out.ab) eH O;injection h with h;injection h with h cb _;subst h;subst cb;obtain⟨a9,hY⟩:∃c,ao.getD eH 0=c:=⟨_,rfl⟩;rw[hY]at F;obtain⟨z,b5⟩:∃z,Hid (Ao T a9=z):=⟨_,rfl⟩;have l':Hid (IK T ao m=decide (z=9)):=Awp;have kP:Hid (R=(decide (z=9)||(decide ((8205:Int)=8204)&&Fl T ao m))):=AzH;have b8:decide ((0:Int)<(m:Int))=true:=At O;have b9:0<m:=O;have c3:(0:Int)<=(eH:Int):=O;have c4:(eH:Int)<(n:Int):=O;have c5:(m:Int)-1=(eH:Int):=O;have h:IntKind.i64.wrap (eH:Int)=(eH:Int):=AT _ O;go_upto_region 5 with(fail);have cc:=λp=>Aj F p;have G:=λp=>Dm (p:=p) λcd ce=>Hn x T a9 z cd (ac.out.tab.below ce) cD.out b5;simp only[TV.agg]at G;have cf:=U G;clear G hY F ca am;obtain⟨⟨a',ba,bc,bd,be,bl⟩,⟨bs,bt,bv,bx,b0,b1⟩⟩:=ac.out.box.load;have cg:=λp=>Aj a' p;have ci:=λp=>Aj ba p;have cj:=λp=>Aj bc p;have cm:=λp=>Aj bd p;have co:=λp=>Aj be p;have cp:=λp=>Aj bl p;have cq:=λp=>Aj bs p;have cr:=λp=>Aj bt p;have cs:=λp=>Aj bv p;have ct:=λp=>Aj bx p;have cu:=λp=>Aj b0 p;have cv:=λp=>Aj b1 p;clear a' ba bc bd be bl bs bt bv bx b0 b1;refine DG Ax Ax ?_
    repeat (go_big_quiet_step ((go_at_call 155;with_reducible exact cf.out _)))
    refine wpQuiet_nil ?_;intro _ A;obtain⟨pq,C⟩:=A;subst C;have dF:=U (ac.out.step (Dx k pq));generalize Cf k pq=b' at dF|-;clear cg ci cj cm co cp cq cr cs ct cu cv cc;by_cases fm:z=9
    ·exact AyH
    ·have mc:(z==9)=false:=by simp[fm]
     have jl:Hid (R=(decide ((8205:Int)=8204)&&Fl T ao m)):=by unfold Hid;rw[kP.out,Ai fm,FE]
     clear fm;exact AAA
  ·have c9:(s !=8204)=true:=by simp[ad]
   have c':(s !=8205)=true:=by simp[b2]
   obtain rfl:R=true:=by rw[b4.out,N ⟨ad,b2⟩]
   clear ad b2 b4;exact Df
theorem Adj{T:Y}{l:List Int}:∀(d m k:Nat),m<=k->k<m+d->(∀j,m<=j->j<k->F' T l j=true)->F' T l k=false->IL T l d m=some k
 | 0,m,k,c,h,_,_=>O
 | d+1,m,k,c,h,dy,b=>by
  rw[IL];by_cases e:m=k
  ·rw[e,N b]
  ·rw[V AiY,Adj d (m+1) k O O (λj s q=>dy j O q) b]
def Aol(x:TV)(T:Y)(p:Option Addr)(cap:Nat)(ao:List Int)(K E:Int)(w:World)(b3:Ah w x T)(b4:Bi w)(b5:Aq w p ao)(b6:ao.length<=17592186043904)(c8:Hid (Lj T ao=(K,E))):Calls prog 167 #[x.agg,.slice p ao.length cap] w (Ar (.tuple #[.int .i64 K,.int .i64 E]) w):=by
 obtain⟨A,co⟩:∃A,Hid (AB T ao=A):=⟨_,rfl⟩;have cd:=U b4;have ac:=U (Am.new b3);have bv:=U b5;have bx:=λW (ce:Ah W x T) cf cg=>Aoz x T p cap ao A W ce cf cg b6 co;obtain⟨n,b0⟩:∃n,ao.length=n:=⟨_,rfl⟩;rw[b0]at b6 bx|-;have bb:=U b0;have ci:=U bx;clear b3 b5 b0 b4 bx;simp only[TV.agg];go_enter func167,ntmps167;obtain⟨⟨b,m,s,C,F,G⟩,⟨ad,am,a9,a',ba,be⟩⟩:=ac.out.box.load;go_wp2_with fail;refine(ci.out _ ac.out.tab (cd.out.below ac.out.ab) (bv.out.below ac.out.ab)).mono ?_;rintro e w1 ⟨rfl,b7⟩;replace ac:=U (ac.out.step b7);clear b7;clear b m s C F G ad am a9 a' ba be;by_cases bl:A=0
 ·subst bl;have b8:n<=4096:=Pv;have b1:=Mr (CO (CN co.out).1).2.1;have cj:Hid (AH 0 T.al=true):=b1.2.2.1;have cl:Hid (AH 0 T.ai=true):=b1.2.1;obtain⟨L,b9⟩:∃L,Hid (ao.map (D_ T)=L):=⟨_,rfl⟩;clear b1;obtain⟨⟨b,m,s,C,F,G⟩,⟨ad,am,a9,a',ba,be⟩⟩:=ac.out.box.load;go_wp2_with fail;refine(AoB x T p n cap ao L _ ac.out.tab cj.out (bv.out.below ac.out.ab) bb b8 b9).mono ?_;rintro e w2 ⟨q,c,rfl,b',ca⟩;replace ac:=U (ac.out.step ca);have cm:=U b';clear ca b';clear b m s C F G ad am a9 a' ba be;go_wp2;go_loopw[20] (λi wr=>∃k:Nat,k<=n/\i=.int .i64 k/\Hid (∀j,j<k->F' T ao j=true)/\Hid (Am w x T wr)/\Hid (Aq wr q L)) (λi _=>n-(intOf i).toNat)
  case atStart=>exact⟨0,Au _,rfl,λj cp=>O,ac,cm⟩
  case round=>
   obtain⟨k,cr,rfl,cA,bc,bs⟩:=hrel;by_cases cb:k<n
   ·have cs:k<ao.length:=by rw[bb.out];exact cb
    obtain⟨B,cc⟩:∃B,Hid (F' T ao k=B):=⟨_,rfl⟩;have ej:=cc.out;obtain⟨⟨b,m,s,C,F,G⟩,⟨ad,am,a9,a',ba,be⟩⟩:=bc.out.box.load;go_wp2_with fail;refine(Aon x T p n cap ao L q c k B _ bc.out.tab cl.out (bv.out.below bc.out.ab) bs.out b9 bb cb b8 cc).mono ?_;rintro e w3 ⟨rfl,b2⟩;replace bc:=U (bc.out.step b2);replace bs:=U (bs.out.below b2);clear b2;clear b m s C F G ad am a9 a' ba be;cases B with
    | true =>
     have cq:Hid (∀j,j<k+1->F' T ao j=true):=λj cp=>ZI;clear ej;go_wp2;go_roundw
     case rel=>exact⟨k+1,O,An,cq,bc,bs⟩
     case measure=>first|(simp[intOf];done)|(simp[intOf];omega)
    | false =>
     have ka:IL T ao ao.length 0=some k:=Adj ao.length 0 k O O (λj _ h=>cA.out j h) ej;exact AAz
   ·exact Az7
 ·exact AAJ
end Go.Proofs.YtblcoicaeeiojaaGreatDoor
namespace Go.Proofs.YtblcoicaeeiojaaGreatDoor
def il1:Bf LL (ByteArray.mk #[69,120,97,109,112,108,101]).data.toList=([101,120,97,109,112,108,101],0,0):=by decide +kernel
def il2:Bf LL (ByteArray.mk #[97,46,46,98]).data.toList=([],1,10):=by decide +kernel
def il3:Bf LL (ByteArray.mk #[120,110,45,45,57]).data.toList=([],0,12):=by decide +kernel
def il4:strOfNums [101,120,97,109,112,108,101]=ByteArray.mk #[101,120,97,109,112,108,101]:=by decide +kernel
end Go.Proofs.YtblcoicaeeiojaaGreatDoor
namespace Go.Proofs.YtblcoicaeeiojaaGreatDoor
open Go.RowKit
def AlH(x:TV)(T:Y)(p:Option Addr)(cap:Nat)(ao:List Int)(E:Int)(w:World)(c:Ah w x T)(h:Bi w)(k:Aq w p ao)(m:ao.length<=17592186043904)(s:Hid (AB T ao=E)):Calls prog 238 #[x.agg,.slice p ao.length cap] w (Ar (.int .i64 E) w):=by
 obtain⟨A,C⟩:∃L,Hid (LF T ao=L):=⟨_,rfl⟩;have b:=λW (F:Ah W x T) G ad=>O3 x T p cap ao E A W F G ad m s C;have dm:=U h;have ac:=U (Am.new c);have dG:=U k;obtain⟨n,q⟩:∃n,ao.length=n:=⟨_,rfl⟩;rw[q]at m b|-;have iL:=U b;clear c k q h b;simp only[TV.agg];go_enter func238,ntmps238;exact UY
def AkT(x:TV)(T:Y)(p:Option Addr)(cap:Nat)(ao:List Int)(Z E:Int)(w:World)(b1:Ah w x T)(b2:Bi w)(b3:Aq w p ao)(be:ao.length<=17592186043904)(c8:Hid (Ma T ao=(Z,E))):Calls prog 168 #[x.agg,.slice p ao.length cap] w (Ar (.tuple #[.int .i64 Z,.int .i64 E]) w):=by
 obtain⟨A,co⟩:∃A,Hid (AB T ao=A):=⟨_,rfl⟩;have ac:=U (Am.new b1);have bs:=U b3;have cb:=U b2;have bv:=λW (cc:Ah W x T) cd ce=>AlH x T p cap ao A W cc cd ce be co;obtain⟨n,bx⟩:∃n,ao.length=n:=⟨_,rfl⟩;rw[bx]at be bv|-;have bb:=U bx;have cf:=U bv;clear b1 b3 bx b2 bv;simp only[TV.agg];go_enter func168,ntmps168;obtain⟨⟨m,q,s,C,F,G⟩,⟨L,ad,am,a9,a',ba⟩⟩:=ac.out.box.load;go_wp2_with fail;refine(cf.out _ ac.out.tab (cb.out.below ac.out.ab) (bs.out.below ac.out.ab)).mono ?_;rintro e w1 ⟨rfl,b4⟩;replace ac:=U (ac.out.step b4);clear b4;clear m q s C F G L ad am a9 a' ba;by_cases bl:A=0
 ·subst bl;have cg:n<=4096:=Pv;have b5:Hid (AH 0 T.aj=true):=(Mr (CO (CN co.out).1).2.1).2.2.2.2.1;obtain⟨K,b6⟩:∃K,Hid (ao.any (DN T)=K):=⟨_,rfl⟩;obtain⟨Y,b7⟩:∃K,Hid (ao.any EQ=K):=⟨_,rfl⟩;obtain⟨X,b8⟩:∃K,Hid (ao.any EB=K):=⟨_,rfl⟩;obtain⟨⟨m,q,s,C,F,G⟩,⟨L,ad,am,a9,a',ba⟩⟩:=ac.out.box.load;go_wp2_with fail;refine(AkW x T p n cap ao K Y X _ ac.out.tab b5.out (bs.out.below ac.out.ab) bb be b6 b7 b8).mono ?_;rintro e w2 ⟨rfl,c⟩;replace ac:=U (ac.out.step c);clear c;clear m q s C F G L ad am a9 a' ba;have b:=Fe.new w2 K Y X 192;obtain⟨ci,cj,cl,cm,cp,cq,cr⟩:=Fe.new w2 false false false 192;go_upto_region 5 with(fail);clear ci cj cl cm cp cq cr;have b9:Below w2.heap.size w2 (w2.alloc (.cells #[.bool K,.bool Y,.bool X] 192)):=(Al _ _).alloc (Ac _) _;replace ac:=U (ac.out.step b9);have b0:=U b;clear b9 b;generalize (w2.alloc (.cells #[.bool K,.bool Y,.bool X] 192))=cI at ac b0|-;generalize w2.heap.size=cs at b0|-;go_wp2;go_loopw[20] (λi wr=>Hid (Fe wr cs K Y X)/\∃k:Nat,k<=n/\i=.int .i64 k/\Hid (∀j,j<k->Gq T ao j=true)/\Hid (Am w x T wr)) (λi _=>n-(intOf i).toNat)
  case atStart=>exact⟨b0,0,Au _,rfl,λj ct=>O,ac⟩
  case round=>
   obtain⟨b,k,cO,rfl,cA,bc⟩:=hrel;by_cases b':k<n
   ·have c2:k<ao.length:=by rw[bb.out];exact b'
    obtain⟨B,ca⟩:∃B,Hid (Gq T ao k=B):=⟨_,rfl⟩;have ej:=ca.out;obtain⟨cu,cv,cx,cy,cB,cC,cD⟩:=b.out;obtain⟨⟨m,q,s,C,F,G⟩,⟨L,ad,am,a9,a',ba⟩⟩:=bc.out.box.load;go_wp2_with fail;refine(Alb x T p n cap ao k K Y X B _ bc.out.tab b5.out (bs.out.below bc.out.ab) bb b' cg b6 b7 b8 ca).mono ?_;rintro e w2 ⟨rfl,c⟩;replace bc:=U (bc.out.step c);replace b:=U (b.out.below c);clear cu cv cx cy cB cC cD;clear c;clear m q s C F G L ad am a9 a' ba;cases B with
    | true =>
     have cF:Hid (∀j,j<k+1->Gq T ao j=true):=λj ct=>ZI;clear ej;go_wp2;go_roundw
     case rel=>exact⟨b,k+1,O,An,cF,bc⟩
     case measure=>first|(simp[intOf];done)|(simp[intOf];omega)
    | false =>
     exact Az_
   ·exact Az8
 ·exact AAK
def Du(x:TV):Prop:=∀p n c,x.a9=.slice p n c->n<=c
structure J3 (w0:World) (g:Nat) (x:TV) (T:Y) (w:World):Prop where
 tab:Ah w x T
 box:AS w g x
 ab:Below w0.heap.size w0 w
theorem J3.step{w0 w w':World}{g:Nat}{x:TV}{T:Y}(h:J3 w0 g x T w)(b:Below w.heap.size w w'):J3 w0 g x T w':=
 ⟨h.tab.below b,h.box.below b,h.ab.trans (b.mono h.ab.size)⟩
theorem Ak.row{w:World}{B:Nat}{v:Value}{xs:List Int}(h:Ak w B v xs)(C:0<xs.length):∃g c,v=.slice (some ⟨g,0,none⟩) xs.length c/\B<=g/\g<w.heap.size/\(∀k,k<xs.length->w.cell? ⟨g,k,none⟩=some (.int .i64 (xs.getD k 0)))/\(∀k,w.frozen? ⟨g,k,none⟩=false):=by
 have b:=h;unfold Ak at b;obtain⟨F,m⟩:=h;rcases m with⟨rfl,G⟩|⟨g,cap,L,rfl,q,s,ac,ad,am,e⟩
 ·omega
 ·rw[Sv]at e;exact⟨g,cap,rfl,q,(Bs b g rfl).2,λk A=>AfX s e k A,λk=>MO b k⟩
theorem Ak.set{w:World}{B g n c:Nat}{xs:List Int}(h:Ak w B (.slice (some ⟨g,0,none⟩) n c) xs)(b:xs.length=n)(k:Nat)(z:Int):Ak (w.setCell ⟨g,k,none⟩ (.int .i64 z)) B (.slice (some ⟨g,0,none⟩) n c) (xs.set k z):=by
 subst b;unfold Ak at h|-;rw[JV,KV];exact(PE h k _).1
abbrev J_(g:Nat)(x:TV)(w:World):Prop:=w.cell? ⟨g,0,none⟩=some x.a0/\w.cell? ⟨g,1,none⟩=some x.a1/\w.cell? ⟨g,2,none⟩=some x.a2/\w.cell? ⟨g,3,none⟩=some x.a3/\w.cell? ⟨g,4,none⟩=some x.a4/\w.cell? ⟨g,5,none⟩=some x.a5/\w.cell? ⟨g,6,none⟩=some x.a6/\w.cell? ⟨g,7,none⟩=some x.a7/\w.cell? ⟨g,8,none⟩=some x.a8/\w.cell? ⟨g,9,none⟩=some x.a9/\w.cell? ⟨g,10,none⟩=some x.aB/\w.cell? ⟨g,11,none⟩=some x.ax
theorem AS.flat{w:World}{g:Nat}{x:TV}(h:AS w g x):J_ g x w:=by
 obtain⟨⟨b,c,e,k,m,q⟩,⟨s,A,C,F,G,L⟩⟩:=h.load;exact⟨b,c,e,k,m,q,s,A,C,F,G,L⟩
def LM:TV:=⟨.slice none 0 0,.slice none 0 0,.slice none 0 0,.slice none 0 0,.slice none 0 0,.slice none 0 0,.slice none 0 0,.slice none 0 0,.slice none 0 0,.slice none 0 0,.slice none 0 0,.slice none 0 0⟩
def NT(w:World):Cw w (.slice none 0 0) []:=⟨none,0,rfl,λk b=>absurd b (FH _),J⟩
def Uv(w:World):DK w (.slice none 0 0) []:=⟨none,0,rfl,λk b=>absurd b (FH _),J⟩
def AuY(w:World):Bp w (.slice none 0 0) []:=⟨none,0,rfl,λk b=>absurd b (FH _),J⟩
def AuZ(w:World):Ah w LM LL:=⟨NT w,NT w,NT w,NT w,NT w,NT w,NT w,Uv w,Uv w,Uv w,AuY w,Uv w⟩
def Lf(b:List Bool)(i:Nat)(L:List Int):Prop:=
 (IV b i=false/\L=Ez b i)\/
 (IV b i=true/\∃e,i<=e/\(∀x,i<=x->x<e->Gy b x=true)/\Gy b e=false/\L=Ez b (e+1))
theorem Lf.zero(b:List Bool):Lf b 0 []:=.inl ⟨rfl,rfl⟩
theorem Lf.run{c:List Bool}{i k:Nat}{L:List Int}(h:Lf c i L)(q:i<k)(s:IV c i=false)(e:∀m,i<=m->m<k->Gy c m=true)(A:Gy c k=false):Lf c (i+1) (L++[(i:Int),(k:Int)]):=by
 rcases h with⟨_,F⟩|⟨C,_⟩
 ·refine .inr ⟨e i (Ac _) q,k,O,λx a b=>e x O b,A,?_⟩;rw[F];exact(Al' c i k q s e A).symm
 ·rw[s]at C;cases C
theorem Lf.fin{b:List Bool}{L:List Int}(h:Lf b b.length L):L=O1 b:=by
 have c:=Aez b;unfold O1;rcases h with⟨k,m⟩|⟨k,e,m,q,A,s⟩
 ·rw[Nf];unfold G6;rw[k,c,m];simp
 ·have:e=b.length:=by
   rcases Ie b.length e with h|h
   ·have:=q _ (Ac _) h;rw[c]at this;cases this
   ·omega
  subst this;exact s
theorem Lf.len{b:List Bool}{i:Nat}{L:List Int}(h:Lf b i L)(e:IV b i=false):L.length<=i:=by
 rcases h with⟨_,k⟩|⟨c,_⟩
 ·rw[k];exact Acv _ _
 ·rw[e]at c;cases c
def NJ(w:World)(g n:Nat):List Int:=(List.range n).map λk=>match w.cell? ⟨g,k,none⟩ with|some (.int _ z)=>z|_=>0
def Ar3{w:World}{g n:Nat}{xs:List Int}(c:xs.length=n)(h:∀k,k<n->w.cell? ⟨g,k,none⟩=some (.int .i64 (xs.getD k 0))):NJ w g n=xs:=by
 subst c;apply Ve
 ·simp[NJ]
 ·intro k e b;simp only[NJ,List.getElem_map,List.getElem_range];rw[h k b];simp[b]
def ND:Value->Nat
 | .bool true=>1
 | _=>0
end Go.Proofs.YtblcoicaeeiojaaGreatDoor
