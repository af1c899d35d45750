/- idna (stage 18): plain:  -/
import Derived.Test.YtblcoicaeeiojaaGreatDoorSOdPmCmpD
import Derived.Test.YtblcoicaeeiojaaGreatDoorSOaPmBidB
set_option linter.all false
set_option maxHeartbeats 4000000
set_option maxRecDepth 100000
open Go.Proofs.Tryz
namespace Go.Proofs.YtblcoicaeeiojaaGreatDoor
theorem AeW:∀(l:List Int) (F:List Bool),F.length=l.length->(AW l F).length+F.count false=l.length
 | [],F,h=>by
  have:F=[]:=Bw Co;subst this;simp[AW]
 | c::l,[],h=>E5
 | c::l,b::F,h=>by
  have e:=AeW l F Co;rw[AW];cases b with
  | true=>simp;omega
  | false=>simp;omega
theorem Ab7:∀(F:List Bool) (a:Nat),F.getD a true=false->(F.set a true).count false+1=F.count false
 | [],a,h=>E5
 | b::F,0,h=>by
  have:b=false:=Co;subst this;exact J
 | b::F,a+1,h=>by
  have c:=Ab7 F a Co;rw[Si,List.count_cons,List.count_cons];omega
theorem Ab6:∀(F:List Bool),(∀i,i<F.length->F.getD i true=true)->F.count false=0
 | [],_=>rfl
 | b::F,h=>by
  have c:b=true:=by simpa using h 0 J
  have e:=Ab6 F (λi dI=>by simpa using h (i+1) Iz);subst c;rw[List.count_cons,e];rfl
def Arn(b j v:Nat):1<=(Dn b j v).length:=by
 rw[Dn];split<;>simp
theorem AeP(l:List Int):∀(f:Nat) (F:List Bool) (n:Int) (i b:Nat) (first:Bool),F.length=l.length->f<=F.count false->f<=(Fy l f F n i b first).length
 | 0,F,n,i,b,first,hF,e=>Au _
 | f+1,F,n,i,b,first,hF,e=>by
  rw[Fy];cases c:Dy l F l.length with
  | none =>
   have:=Ab6 F (λi dI=>QB l F l.length c i O);omega
  | some a =>
   have h:=NC l F _ a c;have k:=Ab7 F a h.out;have m:=Arn b 0 (FV l F n i a);have q:=AeP l f (F.set a true) (l.getD a 0) (Bv l F a+1) (Fi (FV l F n i a) ((AW l F).length+1) first) false UM O;simp only[Bc,C6];omega
def AcA{l:List Int}(h:(Dk l).2=0):l.length<=(Dk l).1.length/\l.length<=256/\l.all BO=true:=by
 unfold Dk at h|-;by_cases b:256<l.length
 ·rw[N b]at h;simp at h
 ·rw[V b]at h|-;by_cases be:l.all BO=false
  ·rw[N be]at h;simp at h
  ·rw[V be];refine⟨?_,O,N1⟩;have e:=AeW l (C8 l) Zy;have c:=AeP l (l.length-(Bm l).length) (C8 l) 128 0 72 true Zy (by unfold Bm;omega);unfold DM;simp only[Bc];unfold Bm at c|-;omega
def QA{l:List Int}(h:(AE l).2=0):l≠[]/\l.length<=(AE l).1.length/\(AE l).1.length<=63/\1<=(AE l).1.length:=by
 unfold AE at h|-;by_cases b:l=[]
 ·rw[N b]at h;simp at h
 ·rw[V b]at h|-;have k:1<=l.length:=KT.2 b;refine⟨b,?_⟩;by_cases e:D5 l=true
  ·rw[N e]at h|-;unfold Fv at h|-;by_cases cD:63<l.length
   ·rw[N cD]at h;simp at h
   ·rw[V cD];exact⟨Ac _,MH,k⟩
  ·rw[V e]at h|-;by_cases c:(Dk l).2=0
   ·rw[V O]at h|-;have m:=(AcA c).1;unfold Fv at h|-;by_cases cD:63<(FX++(Dk l).1).length
    ·rw[N cD]at h;simp at h
    ·rw[V cD];simp only[Bc]at cD|-;omega
   ·rw[N c]at h;exact absurd h c
def GV(c:Int):Prop:=(97<=c/\c<=122)\/(48<=c/\c<=57)\/c=45
def AtW{T:Y}(h:Av T=0){c:Int}(k:0<=c)(m:c<=127)(e:AM T c=1\/AM T c=4):GV c\/c=46:=by
 unfold AM at e;rw[MC (OV (CO h).2.1) (GA.2 O),PS]at e;unfold F4 at e;unfold GV;by_cases b:(F9 c||decide (c=46)||Cg c)=true
 ·simp only[Ic,NB,A4]at b;rcases b with(b|b)|b
  ·exact .inl b
  ·exact .inr b
  ·unfold Cg at b;simp at b;omega
 ·rw[V b]at e;split at e<;>omega
def Agm{T:Y}(h:Av T=0){c:Int}(b:GV c\/c=46):AM T c=1:=by
 unfold GV at b;unfold AM;rw[MC (OV (CO h).2.1) (GA.2 O),PS];unfold F4;rw[N];simp only[Ic,NB,A4];left;rcases b with b|b
 ·exact .inl b
 ·exact .inr b
def AgQ{T:Y}{y:List Int}(h:Cn T y=0){c:Int}(b:c∈y)(m:c<=127):GV c:=by
 obtain⟨_,q,s,A,_,_,_⟩:=AgR h;have C:=(CN (MB h).1).1;have k:=AR.1 A c b;have F:0<=c:=by unfold AA at k;simp at k;omega
 rcases AtW C F m (s c b)with e|e
 ·exact e
 ·rw[e]at b;exact absurd b q
def WM{T:Y}{y:List Int}(h:Cn T y=0)(k:(AE y).2=0):∀c∈(AE y).1,GV c:=by
 have s:=QA k;intro c b;unfold AE at k b;rw[V s.1]at k b;by_cases m:D5 y=true
 ·rw[N m]at k b;unfold Fv at b;split at b
  ·cases b
  ·have:=AR.1 m c b;simp only[AJ,A4]at this;exact AgQ h b this.2
 ·rw[V m]at k b;by_cases q:(Dk y).2=0
  ·rw[V O]at b;unfold Fv at b;split at b
   ·cases b
   ·have b:c∈FX++(Dk y).1:=b;have A:=AcA q;rcases Bg.1 b with e|e
    ·unfold FX at e;simp only[AX,CT,C7]at e;unfold GV;omega
    ·unfold Dk at e;rw[V O,V (by rw[A.2.2];simp)]at e;rcases Bg.1 e with e|e
     ·unfold DM at e;rcases Bg.1 e with e|e
      ·exact AgQ h (Akt e) (by have:=VJ y c e;omega)
      ·split at e
       ·cases e
       ·rw[Ch]at e;unfold GV;omega
     ·have:=XC y _ _ _ _ _ _ c e;unfold GV;omega
  ·rw[N q]at k;exact absurd k q
def Mm{T:Y}(h:BZ T){c:Int}(k:c<7680\/7684<c):As T.dec c=[]:=by
 by_cases e:As T.dec c=[]
 ·exact e
 ·obtain⟨j,m,b,_⟩:=h.dec.mem _ (IR e);have b:c=7680+j:=b;omega
def AlR(c:Int):(BK c).length<=3:=by
 unfold BK;split
 ·split<;>simp
 ·exact J
def Qq{T:Y}{c:Int}(b:BK c=[])(e:As T.dec c=[]):(Br T c).length=1:=by rw[Ng b e];rfl
def Apc{T:Y}(h:BZ T):∀(j:Nat),j<5->(Br T (7680+j)).length<=j+2:=by
 intro j
 induction j using Nat.strongRecOn with
 | _ j A =>
  intro ad;have m:BK (7680+j)=[]:=IP.2 O;by_cases c:As T.dec (7680+j)=[]
  ·rw[Qq m c];omega
  ·obtain⟨i,dI,s,a,C,k⟩:=h.dec.mem _ (IR c);have s:(7680:Int)+j=7680+i:=s;obtain rfl:i=j:=O;have k:As T.dec (7680+(i:Int))=[a]\/∃b∈Ht,As T.dec (7680+(i:Int))=[a,b]:=k;have am:(Br T a).length<=i+1:=by
    rcases C with e|e|⟨q,F,e⟩
    ·rw[e,Qq (IP.2 O) (Mm h O)];omega
    ·rw[e,Qq (IP.2 O) (Mm h O)];omega
    ·rw[e];have:=A q F O;omega
   rw[Ti h.check m c];rcases k with e|⟨b,G,e⟩
   ·rw[e,Gp];simp[AQ];omega
   ·have L:∀b∈Ht,b<7680:=by decide
    have a9:=L b G;have ac:(Br T b).length=1:=Qq (IP.2 O) (Mm h O);rw[e,Gp,Gp,Bc,Bc,ac];simp[AQ];omega
def Apd{T:Y}(h:BZ T)(c:Int):(Br T c).length<=6:=by
 by_cases e:c<7680\/7684<c
 ·have k:=Mm h e;by_cases b:BK c=[]
  ·rw[Qq b k];omega
  ·unfold Br;rw[V b];have:=AlR c;omega
 ·have:=Apc h (c-7680).toNat O;rw[show (7680:Int)+((c-7680).toNat:Nat)=c by omega]at this;omega
def AdS{T:Y}(h:BZ T)(l:List Int):(AQ T l).length<=6*l.length:=by
 induction l with
 | nil=>simp[AQ]
 | cons x r b =>
  have:=Apd h x;rw[Gp,Bc,BB];omega
def Apf{T:Y}(h:BZ T){l:List Int}(b:l.all AA=true)(c:l.length<=600):Bu T l=0:=
 TH (P6 h.check O b) (by have:=AdS h l;omega)
theorem WI{P:Int->Prop}(k:P 46):∀(Y:List (List Int)),(∀y∈Y,∀c∈y,P c)->∀c∈A7 Y,P c
 | [],_,c,b=>by simp[A7]at b
 | [y],h,c,b=>h y J c (by simpa[A7] using b)
 | y::z::r,h,c,b=>by
  rw[Hb y J]at b;rcases Bg.1 b with e|e
  ·exact h y J c e
  ·rcases AX.1 e with e|e
   ·rw[e];exact k
   ·exact WI k (z::r) (λw m=>h w (by simp[m])) c e
def Aov{Y:List (List Int)}(h:∀y∈Y,y.all AA=true):(A7 Y).all AA=true:=
 AR.2 (WI (P:=λc=>AA c=true) Aw Y (λy b c e=>AR.1 (h y b) c e))
def Agn{T:Y}(h:Av T=0):AM T 46=1:=Agm h (.inr rfl)
theorem V7:∀(Y:List (List Int)) (k:Nat),(Fq k Y).2.2=0->Fq k Y=(Y.map λy=>(AE y).1,0,0)/\∀y∈Y,(AE y).2=0
 | [],k,_=>by simp[Fq]
 | y::r,k,h=>by
  rw[Fq]at h|-;by_cases a':(AE y).2=0
  ·rw[V O]at h|-;by_cases be:(Fq (k+1) r).2.2=0
   ·rw[V O];obtain⟨b,c⟩:=V7 r (k+1) be;refine⟨by rw[b];simp,λz m=>?_⟩;rcases AX.1 m with e|e
    ·rw[e];exact a'
    ·exact c z e
   ·exact NX
  ·exact LQ
def SI{Y:List (List Int)}(h:(Fk Y).2.2=0):(∀y∈Y,(AE y).2=0)/\Fk Y=(A7 (Y.map λy=>(AE y).1),0,0)/\(A7 (Y.map λy=>(AE y).1)).length<=253:=by
 unfold Fk at h|-;by_cases a':(Fq 0 Y).2.2=0
 ·rw[V O]at h|-;obtain⟨b,c⟩:=V7 Y 0 a';rw[b]at h|-;simp only at h|-;by_cases be:(CW ((Y.map λy=>(AE y).1).map List.length)).2=0
  ·rw[V O];refine⟨c,rfl,?_⟩;have:=(SR be).2.2.2;rw[Nu];rw[C6]at this;exact this
  ·exact NX
 ·exact LQ
theorem Agx:∀(Y:List (List Int)) (f:List Int->List Int),(∀y∈Y,y.length<=(f y).length)->(Y.map List.length).sum<=((Y.map f).map List.length).sum
 | [],f,_=>J
 | y::r,f,h=>by
  have:=Agx r f (λz b5=>h z JL);have b:=h y J;simp only[BH,KX];omega
def Aou{Y:List (List Int)}(h:∀y∈Y,(AE y).2=0):(A7 Y).length<=(A7 (Y.map λy=>(AE y).1)).length:=by
 rw[Nu,Nu];have:=Agx Y (λy=>(AE y).1) (λy b=>(QA (h y b)).2.1);rw[C6];omega
def Rl{T:Y}{s:List UInt8}(h:(Bf T s).2.2=0):(A9 T s).2.2=0/\Bf T s=Fk (A9 T s).1:=by
 unfold Bf at h|-;by_cases a':(A9 T s).2.2=0
 ·rw[V O];exact⟨a',rfl⟩
 ·exact LQ
def AgI{T:Y}{s r:List UInt8}(h:A9 T r=A9 T s):Bf T r=Bf T s/\JF T r=JF T s:=by
 have:Bf T r=Bf T s:=by unfold Bf;rw[h]
 exact⟨this,by unfold JF;rw[this,h]⟩
def Gv(b:UInt8):UInt8:=if 65<=b.toNat/\b.toNat<=90 then UInt8.ofNat (b.toNat+32)else b
def WY(b:UInt8):((Gv b).toNat:Int)=By b.toNat:=by
 unfold Gv By;have:=b.toNat_lt;by_cases h:65<=b.toNat/\b.toNat<=90
 ·rw[N h,N O];have:(UInt8.ofNat (b.toNat+32)).toNat=b.toNat+32:=by
   rw[Aay];omega
  rw[this];omega
 ·rw[V h,V O]
theorem Ab3:∀(l:List UInt8) (c:Int),Cd c (l.map Gv)=Cd c l
 | [],c=>rfl
 | b::r,c=>by
  have k:=WY b;have:=b.toNat_lt;rw[BH,Cd,Cd];by_cases h:128<=(b.toNat:Int)/\(b.toNat:Int)<192
  ·have e:((Gv b).toNat:Int)=b.toNat:=by rw[k,WX O]
   rw[e,N h,N h,Ab3 r]
  ·have e:¬(128<=((Gv b).toNat:Int)/\((Gv b).toNat:Int)<192):=by
    rw[k];unfold By;split<;>omega
   rw[V h,V e]
def AmV(l:List UInt8):A1 (l.map Gv)=(By (A1 l).1,(A1 l).2):=by
 cases l with
 | nil=>rfl
 | cons b r =>
  have k:=WY b;have ac:=b.toNat_lt;rw[BH];by_cases h:(b.toNat:Int)<128
  ·have m:∀(x:UInt8) (t:List UInt8),(x.toNat:Int)<128->A1 (x::t)=((x.toNat:Int),1):=λx t q=>by
    have s:BP x.toNat=1:=by unfold BP;rw[N q]
    have A:Er x.toNat=x.toNat:=by unfold Er;rw[N q]
    have G:Az (x.toNat:Int)=1:=Azo;unfold A1;simp only[s,A];rw[V O];simp[Cd,G]
   rw[m b r h,m (Gv b) _ (by rw[k];unfold By;split<;>omega),k]
  ·have e:Gv b=b:=by unfold Gv;rw[V O]
   rw[e];unfold A1;simp only[C6,<-Se,Ab3];by_cases C:BP b.toNat=0\/(r.length:Int)+1<BP b.toNat
   ·simp only[N C];rfl
   ·simp only[V C];cases A:Cd (Er b.toNat) (r.take (BP b.toNat-1).toNat) with
    | none=>rfl
    | some c =>
     simp only;by_cases F:Az c=BP b.toNat
     ·rw[N F];have s:2<=BP b.toNat\/BP b.toNat=0:=UN;have L:¬(65<=c/\c<=90):=λad=>by
       have:Az c=1:=Azo;omega
      rw[WX L]
     ·rw[V F];rfl
theorem Acf:∀(k:Nat) (l:List UInt8),l.length<=k->Bt (l.map Gv)=((Bt l).1.map By,(Bt l).2)
 | k,l,b=>by
  have c:=AmV l;by_cases e:(A1 l).2=0
  ·rw[Nc l e,Nc (l.map Gv) (by rw[c];exact e)];rfl
  ·have m:=Ni l;obtain⟨z,h⟩:∃z:Nat,(A1 l).2=((z+1:Nat):Int):=⟨(A1 l).2.toNat-1,O⟩;rw[Ql l _ z (L2 rfl h),Ql (l.map Gv) (By (A1 l).1) z (by rw[c,h])]
   match k,b with
   | 0,b=>omega
   | k+1,b =>
    rw[<-Sd,Acf k (l.drop (z+1)) Ae];rfl
def AlU(l:List UInt8):Bo (l.map Gv)=((Bo l).1.map By,(Bo l).2):=by
 unfold Bo;rw[C6,Acf l.length l (Ac _)];split
 ·rfl
 ·split<;>rfl
def Ao7(c:Int):AA (By c)=AA c:=by
 unfold By;split
 ·unfold AA;rw[At (show (0:Int)<=c by omega),At (show (0:Int)<=c+32 by omega),At (show c<=1114111 by omega),At (show c+32<=1114111 by omega),Ai (show ¬55296<=c by omega),Ai (show ¬55296<=c+32 by omega)];rfl
 ·rfl
def AtY{T:Y}(h:Av T=0){c:Int}(b:65<=c/\c<=90):AM T c=3:=by
 unfold AM;rw[MC (OV (CO h).2.1) (GA.2 O),PS];unfold F4;rw[V,N (Hg.2 b)];simp only[Ic,NB,A4,not_or];refine⟨⟨O,O⟩,?_⟩;unfold Cg;simp;omega
def W6{T:Y}(h:Av T=0)(c:Int):Dz T (By c)=Dz T c/\(AM T (By c)=0↔AM T c=0):=by
 unfold By;split
 ·rename_i b;have e:=AtY h b;have k:AM T (c+32)=1:=Agm h (.inl (.inl O));refine⟨?_,by rw[e,k];simp⟩;unfold Dz;rw[e,k,V O,N (.inl rfl),N rfl];unfold FP;rw[N (Hg.2 b)]
 ·exact⟨rfl,Iff.rfl⟩
theorem AdY{T:Y}(h:Av T=0):∀l:List Int,AF T (l.map By)=AF T l
 | []=>rfl
 | c::r=>by
  have b:=AdY h r;unfold AF at b|-;rw[BH,JT,JT,b,(W6 h c).1]
theorem Abi{T:Y}(h:Av T=0):∀(l:List Int) (k:Nat),ER T k (l.map By)=ER T k l
 | [],k=>rfl
 | c::r,k=>by
  rw[BH,ER,ER,Abi h r (k+1)];by_cases e:AM T c=0
  ·rw[N e,N ((W6 h c).2.2 e)]
  ·rw[V e,V (λb=>e ((W6 h c).2.1 b))]
def AjU(T:Y)(l:List Int):AB T (l.map By)=AB T l:=by
 have:(l.map By).all AA=l.all AA:=by
  rw[List.all_map];congr 1;funext c;exact Ao7 c
 unfold AB;rw[C6,this]
def Apq{T:Y}(h:Av T=0)(l:List Int):Bl T (l.map By)=Bl T l:=by
 unfold Bl;rw[AjU,Abi h,AdY h]
def Ary(T:Y)(s:List UInt8):A9 T (s.map Gv)=A9 T s:=by
 by_cases c:s=[]
 ·rw[c];rfl
 ·unfold A9;by_cases b:Av T=0
  ·have:Ga T ((Bo s).1.map By)=Ga T (Bo s).1:=by unfold Ga;rw[Apq b]
   rw[AlU];simp only[this,c,List.map_eq_nil_iff]
  ·rw[N b,N b]
def Arx{T:Y}(h:BZ T){l:List Int}(c:(Bl T l).2.2=0):Ga T (Bl T l).1=Ga T l:=by
 have e:=(Aps h c).1;have k:=(TC c).2.2.2;obtain⟨m,b⟩:∃m,(Bl T l).1=m:=⟨_,rfl⟩;rw[b]at e;have q:Bl T l=(m,0,0):=by rw[k,<-b,k]
 rw[b];unfold Ga;rw[e,q]
def Arz{T:Y}(h:BZ T){s r:List UInt8}(b:s≠[])(c:r≠[])(m:(Bo s).2.2=0)(e:(Bl T (Bo s).1).2.2=0)(k:Bo r=((Bl T (Bo s).1).1,0,0)):A9 T r=A9 T s:=by
 have q:=h.check;unfold A9;rw[V (show ¬Av T≠0 by omega),V c,k,V (show ¬Av T≠0 by omega),V b];simp only;rw[V J,V O,Arx h e]
def AlO{b:List (List Int)}{T:Y}(e:∀y∈b,Cn T y=0)(h:b≠[])(k:∀y∈b,(AE y).2=0):AU (A7 (b.map λy=>(AE y).1))=b.map λy=>(AE y).1:=
 Acb _ (by simpa using h) (λx m q=>by
  obtain⟨y,c,rfl⟩:=Cc.1 m
  have:=WM (e y c) (k y c) 46 q
  unfold GV at this;omega)
def Auy{T:Y}{s:List UInt8}(h:(Bf T s).2.2=0):(∀c∈(Bf T s).1,GV c\/c=46)/\1<=(Bf T s).1.length/\(Bf T s).1.length<=253/\(Bf T s).2.1=0/\CW ((AU (Bf T s).1).map List.length)=(0,0):=by
 obtain⟨ad,A⟩:=Rl h;obtain⟨_,_,_,_,C,_,F,_⟩:=OR ad;have e:=h;rw[A]at e;obtain⟨k,am,a9⟩:=SI e;rw[A,am];simp only;have a':∀c∈A7 ((A9 T s).1.map λy=>(AE y).1),GV c\/c=46:=WI (P:=λc=>GV c\/c=46) (.inr rfl) _ (λx ba c bb=>by
  obtain⟨y,G,rfl⟩:=Cc.1 ba
  exact .inl (WM (C y G) (k y G) c bb))
 refine⟨a',?_,a9,trivial,?_⟩
 ·cases L:(A9 T s).1 with
  | nil=>exact absurd L F
  | cons y r =>
   have:=(QA (k y (by rw[L];simp))).2.2.2;cases r with
   | nil=>simpa[A7] using this
   | cons z r=>rw[BH,Hb _ J,Bc];omega
 ·rw[AlO C F k];have b:=e;unfold Fk at b;obtain⟨bc,be⟩:=V7 (A9 T s).1 0 (by
   by_cases ac:(Fq 0 (A9 T s).1).2.2=0
   ·exact ac
   ·rw[N ac]at b;exact b)
  rw[bc]at b;simp only at b;rw[V J]at b;by_cases m:(CW (((A9 T s).1.map λy=>(AE y).1).map List.length)).2=0
  ·have q:=SR m;have bd:=Qd 0 _ q.2.1;unfold CW;rw[V q.1,bd];simp only;rw[V (by have:=q.2.2;omega)]
  ·rw[N m]at b;exact absurd b m
def Lz(T:Y)(s:List UInt8):List Int × Nat × Int:=
 if Av T≠0 then([],0,2)else if s=[] then([],0,10)else if(Bo s).2.2≠0 then([],(Bo s).2) else
 if(Bl T (Bo s).1).2.2≠0 then([],(Bl T (Bo s).1).2) else(BU T (Bl T (Bo s).1).1,0,Bu T (Bl T (Bo s).1).1)
def Ae7(T:Y)(s:List UInt8):A9 T s=if(Lz T s).2.2≠0 then([],(Lz T s).2)else DX T (Lz T s).1:=by
 unfold A9 Lz;by_cases e:Av T=0
 ·have e:¬Av T≠0:=by omega
  rw[V e,V e];by_cases h:s=[]
  ·rw[N h,N h,N J]
  ·rw[V h,V h];by_cases b:(Bo s).2.2=0
   ·have b:¬(Bo s).2.2≠0:=by omega
    rw[V b,V b];unfold Ga;by_cases c:(Bl T (Bo s).1).2.2=0
    ·have c:¬(Bl T (Bo s).1).2.2≠0:=by omega
     rw[V c,V c]
    ·rw[N c,N c,N c]
   ·rw[N b,N b,N b]
 ·rw[N e,N e,N J]
def Ap2{T:Y}{s:List UInt8}:(Lz T s).1.length<=4096:=by
 unfold Lz
 repeat' split
 all_goals first|exact Xg T _|simp
def Acl(L:List UInt8):(Bo L).1.length<=4096:=by
 unfold Bo;split
 ·exact J
 ·split
  ·exact J
  ·have:=(Qi L.length L (Ac _)).2;have:=(Qi L.length L (Ac _)).1;simp only;omega
def VG{l:List Int}(h:D5 l=true):∀c∈l,0<=c/\c<=127:=λc b=>by
 have:=AR.1 h c b;exact GG
def Am3{l:List Int}(h:∀c∈l,0<=c/\c<=127):Bj l=l:=by
 induction l with
 | nil=>rfl
 | cons c r b =>
  have k:=h c J;have e:Bq c=[c]:=N k.2;unfold Bj at b|-;rw[JT,e,b (λd m=>h d (by simp[m]))];rfl
def X7{l:List Int}(h:l.all AA=true):GR l=true:=by
 unfold GR;refine AR.2 λc b=>?_;have:=AR.1 h c b;unfold AA at this;simp at this;have:Az c≠0:=RC;simp[this]
def AtL{l:List Int}(h:∀c∈l,0<=c/\c<=127):l.all AA=true:=AR.2 λc b=>by
 have:=h c b;unfold AA;exact Ae
def Amg{l:List Int}(h:D5 l=true)(c:l.length<=4096):Cl l=(strOfNums l,0):=by
 have b:=VG h;unfold Cl;rw[V O,N (X7 (AtL b)),Am3 b]
def Te{l:List Int}(h:l.all AA=true)(b:l.length<=4096):Cl l=(strOfNums (Bj l),0):=by
 unfold Cl;rw[V O,N (X7 h)]
def V1{l:List Int}(h:l.all AA=true)(e:l.length<=1000):Bo (strOfNums (Bj l)).data.toList=(l,0,0):=by
 rw[Agt];have b:=Acn [] l (X7 h);have c:Bt ([]:List UInt8)=([],0):=by simp[Bt,Ke]
 rw[E8,c,E8]at b;have k:(Ki l).length<=4*l.length:=by
  rw[<-Agt];have:(strOfNums (Bj l)).data.toList.length=(Bj l).length:=Et _;rw[this];exact Oy l
 unfold Bo;rw[V O,b,V J]
theorem Adu{T:Y}:∀(X:List (List Int)) (k j:Nat),j<X.length->(∀i,i<j->(A8 T (X.getD i [])).2=0)->(A8 T (X.getD j [])).2≠0->Dw T k X=([],k+j,(A8 T (X.getD j [])).2)
 | [],k,j,h,_,_=>E5
 | x::r,k,0,h,_,b=>by
  have b:(A8 T x).2≠0:=b;rw[Dw,N b];rfl
 | x::r,k,j+1,h,a',b=>by
  have m:(A8 T x).2=0:=a' 0 O;have e:(x::r).getD (j+1) []=r.getD j []:=J;rw[e]at b|-;have c:=Adu r (k+1) j Co (λi dI=>AzK) b;rw[Dw,V O,c,N b,show k+1+j=k+(j+1) by omega]
theorem Tw{T:Y}:∀(X:List (List Int)) (k:Nat),(∀x∈X,(A8 T x).2=0)->Dw T k X=(X.map λx=>(A8 T x).1,0,0)
 | [],k,_=>rfl
 | y::r,k,h=>by
  rw[Dw,V (by have:=h y J;omega),Tw r (k+1) (λz b5=>h z JL)];exact J
theorem Acy:∀(X:List (List Int)) (k j:Nat),j<X.length->(∀i,i<j->(AE (X.getD i [])).2=0)->(AE (X.getD j [])).2≠0->Fq k X=([],k+j,(AE (X.getD j [])).2)
 | [],k,j,h,_,_=>E5
 | x::r,k,0,h,_,b=>by
  have b:(AE x).2≠0:=b;rw[Fq,N b];rfl
 | x::r,k,j+1,h,a',b=>by
  have m:(AE x).2=0:=a' 0 O;have e:(x::r).getD (j+1) []=r.getD j []:=J;rw[e]at b|-;have c:=Acy r (k+1) j Co (λi dI=>AzK) b;rw[Fq,V O,c,N b,show k+1+j=k+(j+1) by omega]
theorem Tc:∀(Y:List (List Int)) (k:Nat),(∀y∈Y,(AE y).2=0)->Fq k Y=(Y.map λy=>(AE y).1,0,0)
 | [],k,_=>rfl
 | y::r,k,h=>by
  rw[Fq,V (by have:=h y J;omega),Tc r (k+1) (λz b5=>h z JL)];exact J
def DD(T:Y)(X:List (List Int))(k:Nat):List (List Int):=(X.take k).map (λx=>(A8 T x).1)++X.drop k
def Ad8(T:Y)(X:List (List Int)):DD T X 0=X:=by simp[DD]
def Apy(T:Y)(X:List (List Int)):DD T X X.length=X.map λx=>(A8 T x).1:=by simp[DD]
def Xb(T:Y)(X:List (List Int))(k:Nat):(DD T X k).length=X.length:=by simp[DD];omega
def QG(T:Y)(X:List (List Int))(k:Nat)(h:k<X.length):(DD T X k).getD k []=X.getD k []:=by
 unfold DD;have b:((X.take k).map λx=>(A8 T x).1).length=k:=Ae;simp only[List.getD];rw[LW O,b,MU,MS,E_]
def Apz(T:Y)(X:List (List Int))(k:Nat)(h:k<X.length):(DD T X k).set k (A8 T (X.getD k [])).1=DD T X (k+1):=by
 unfold DD;have b:((X.take k).map λx=>(A8 T x).1).length=k:=Ae;have c:X.drop k=X.getD k []::X.drop (k+1):=by
  rw[EP h];simp[List.getD,h]
 have e:X.take (k+1)=X.take k++[X.getD k []]:=by
  rw[E9 h];simp[List.getD,h]
 rw[PO,V O,b,MU,c,Sj,e,FY,Aap,LV];rfl
def XM{T:Y}{m:List Int}{j:Nat}(c:j<(AU m).length)(e:∀i,i<j->(A8 T ((AU m).getD i [])).2=0)(b:(A8 T ((AU m).getD j [])).2≠0):DX T m=([],j,(A8 T ((AU m).getD j [])).2):=by
 unfold DX;rw[Adu _ 0 j c e b];simp only;rw[N b,BY]
def TD{X:List (List Int)}{P:List Int->Prop}(h:∀i,i<X.length->P (X.getD i [])):∀x∈X,P x:=λx b=>by
 obtain⟨i,dI,e⟩:=JU b;have:=h i dI;simp[List.getD,dI]at this;rwa[e]at this
def Al3(T:Y)(L:List (List Int)):((Cu T L).1.toNat:Int)=(Cu T L).1:=by
 unfold Cu
 repeat' split
 all_goals simp
def Ae4{T:Y}{m:List Int}{K E:Int}(h:∀i,i<(AU m).length->(A8 T ((AU m).getD i [])).2=0)(b:Cu T ((AU m).map λx=>(A8 T x).1)=(K,E)):DX T m=if E≠0 then([],K.toNat,E) else((AU m).map λx=>(A8 T x).1,0,0):=by
 unfold DX;rw[Tw _ 0 (TD (P:=λx=>(A8 T x).2=0) h)];simp only;rw[V J,b]
def AoK{T:Y}{x:List Int}(h:(A8 T x).2=0):(A8 T x).1.length<=4096:=(CN (MB (Tv h).1).1).2.1
def Akl{T:Y}{y:List Int}(h:Cn T y=0)(b:(AE y).2=0):Ap (strOfNums (AE y).1)=(AE y).1:=
 Mo _ λc e=>by
  have:=WM h b c e;unfold GV at this;omega
def Ak'{L:List Nat}(h:∀n∈L,1<=n/\n<=63):(CW L).1=0:=by
 unfold CW;split
 ·rfl
 ·rw[Qd 0 L h];simp only;split<;>rfl
def Aa_{T:Y}{b:List (List Int)}(q:∀y∈b,Cn T y=0)(e:∀y∈b,(AE y).2=0):OI (b.map λy=>strOfNums (AE y).1)=(strOfNums (Fk b).1,(Fk b).2.2)/\(Fk b).2.1=0:=by
 have s:(b.map λy=>strOfNums (AE y).1).map ByteArray.size=(b.map λy=>(AE y).1).map List.length:=by
  rw[LZ,LZ];exact Jc λy _=>Et _
 have A:(b.map λy=>strOfNums (AE y).1).map Ap=b.map λy=>(AE y).1:=by
  rw[LZ];exact Jc λy c=>Akl (q y c) (e y c)
 have h:(CW ((b.map λy=>(AE y).1).map List.length)).1=0:=Ak' λn C=>by
  obtain⟨z,h,rfl⟩:=Cc.1 C;obtain⟨y,c,rfl⟩:=Cc.1 h;have:=QA (e y c);omega
 unfold OI Fk;rw[Tc b 0 e,s];simp only;rw[V (show ¬(0:Int)≠0 by simp)];by_cases k:(CW ((b.map λy=>(AE y).1).map List.length)).2=0
 ·have m:¬(CW ((b.map λy=>(AE y).1).map List.length)).2≠0:=by omega
  rw[V m,V m];unfold Fw;rw[A];exact C5
 ·rw[N k,N k];exact⟨rfl,h⟩
def Aa6{Y:List (List Int)}{j:Nat}(c:j<Y.length)(e:∀i,i<j->(AE (Y.getD i [])).2=0)(b:(AE (Y.getD j [])).2≠0):Fk Y=([],j,(AE (Y.getD j [])).2):=by
 unfold Fk;rw[Acy Y 0 j c e b];simp only;rw[N b,BY]
def AgJ{T:Y}{s:List UInt8}(h:(Bf T s).2.2=0):Cl (A7 (A9 T s).1)=(strOfNums (Bj (A7 (A9 T s).1)),0)/\(A7 (A9 T s).1).length<=253:=by
 obtain⟨b,c⟩:=Rl h;obtain⟨_,_,_,_,e,_,_,_⟩:=OR b;rw[c]at h;obtain⟨k,q,A⟩:=SI h;have C:=Aou k;exact⟨Te (Aov λy m=>(AgR (e y m)).2.2.2.1) O,O⟩
end Go.Proofs.YtblcoicaeeiojaaGreatDoor
namespace Go.Proofs.YtblcoicaeeiojaaGreatDoor
open Go.RowKit
def AlQ(L:List UInt8):FM L=((Bo L).1,((Bo L).2.1:Int),(Bo L).2.2):=by
 unfold FM Bo
 repeat' split
 all_goals rfl
def ArG(s:List Int):(Jv s).1.length<=2048:=by
 unfold Jv
 repeat' split
 ·exact J
 ·exact J
 ·exact J
 ·exact MI
 ·unfold QR;split
  ·exact J
  ·split
   ·exact J
   ·obtain⟨X,e,h⟩:∃X e,Gr (BN (s.drop 4))=(X,e):=⟨_,_,rfl⟩;rw[h];exact(VY h).1
def Adw(x:List Int)(h:x.length<=4096):(EV x).1.length<=4096:=by
 unfold EV;split
 ·have:=ArG x;omega
 ·exact h
theorem DJ.put{w:World}{B g cap i:Nat}{v:Value}{L:List (List Int)}{x:List Int}(h:DJ w B g cap L)(dI:i<L.length)(F:D3 w B v x)(A:NA v≠some g):DJ (w.setCell ⟨g,i,none⟩ v) B g cap (L.set i x):=by
 have m:w.grownBy (w.setCell ⟨g,i,none⟩ v) (some g):=⟨rfl,rfl,rfl,Aic,λk _ ba=>MN _ _ _ _ (λe=>ba (by simp[e]))⟩;refine⟨λk ba=>?_,λk ba=>?_,h.lo,Ci h.hi m.size,by simpa using h.room,h.bi⟩
 ·by_cases e:k=i
  ·subst e;rw[O5 _ _ _ _ dI];obtain⟨u,q,_⟩:=h.hd k dI;exact⟨v,E7 _ _ _ q,F.kept m (λb s c=>by cases c;exact A s),A⟩
  ·rw[O6 _ _ _ _ _ (λc=>e c.symm)];obtain⟨u,q,G,C⟩:=h.hd k KL;exact⟨u,(AY _ _ _ _ (by intro c;cases c;exact e rfl)).trans q,G.kept m (λb s c=>by cases c;exact C s),C⟩
 ·exact(DC _ _ _ _).trans (h.soft k KL)
theorem DJ.cz{w w':World}{B g cap k c m:Nat}{q s:Option Addr}{L:List (List Int)}{l y:List Int}(h:DJ w B g cap L)(F:k<L.length)(am:L.getD k []=l)(a9:w.cell? ⟨g,k,none⟩=some (.slice q l.length c))(G:Below w.heap.size w w')(a':(s=q/\m=c/\y=l)\/Ak w' w.heap.size (.slice s y.length m) y):DJ (w'.setCell ⟨g,k,none⟩ (.slice s y.length m)) B g cap (L.set k y):=by
 have ac:D3 w' B (.slice s y.length m) y/\NA (.slice s y.length m)≠some g:=by
  rcases a' with⟨rfl,rfl,rfl⟩|ba
  ·obtain⟨v,A,C,bb⟩:=h.hd k F;rw[am]at C;rw[a9]at A;cases A;exact⟨C.kept (G4 G none) (λb _ e=>by cases e),bb⟩
  ·have ad:=D3.bj ba;refine⟨ad.1.mono (Af h.lo (Sn h.hi)),λe=>?_⟩;have A:=(ad.1.lt e).1;have C:=h.hi;omega
 exact(h.below G).put F ac.1 ac.2
def P5(p:Option Addr)(cap:Nat)(l y:List Int)(E:Int)(w:World)(e:Ending)(w':World):Prop:=
 ∃q c,e=.returned (.tuple #[.slice q y.length c,.int .i64 E])/\Aq w' q y/\y.length<=c/\Below w.heap.size w w'/\((q=p/\c=cap/\y=l)\/Ak w' w.heap.size (.slice q y.length c) y)
theorem P5.nil(p:Option Addr)(cap:Nat)(l:List Int)(E:Int){w w':World}(h:Below w.heap.size w w'):P5 p cap l [] E w (.returned (.tuple #[.slice none 0 0,.int .i64 E])) w':=
 ⟨none,0,rfl,λk b=>absurd b (FH _),Ac _,h,.inr (Ak.nil _ _)⟩
def Le(L:List (List Int))(K:Nat)(E:Int)(w:World)(e:Ending)(w':World):Prop:=
 ∃p n c,e=.returned (.tuple #[.slice p n c,.int .i64 K,.int .i64 E])/\Ey w' p L/\L.length=n/\n<=c/\n<=4097/\Below w.heap.size w w'
theorem Le.nil(K:Nat)(E:Int){w w':World}(h:Below w.heap.size w w'):Le [] K E w (.returned (.tuple #[.slice none 0 0,.int .i64 K,.int .i64 E])) w':=
 ⟨none,0,0,rfl,Ey.nil _ _,rfl,Ac _,O,h⟩
def AlZ(p:Option Addr)(n cap:Nat)(l y:List Int)(E:Int)(w:World)(bc:Aq w p l)(bb:Hid (l.length=n))(bd:n<=cap)(be:n<=4096)(C:Hid (EV l=(y,E))):Calls prog 106 #[.slice p n cap] w (P5 p cap l y E w):=by
 obtain⟨B,s⟩:∃B,Hid (D5 l=B):=⟨_,rfl⟩;have F:=U bc;clear bc;go_enter func106,ntmps106;go_wp2_with fail;refine(M8 p n cap l B _ F.out bb O s).mono ?_;rintro e w1 ⟨rfl,rfl⟩;cases B with
 | false =>
  have A:=C.out;unfold EV at A;rw[V (λh=>by rw[s.out]at h;cases h.1)]at A;injection A with ad am;subst ad;subst am;clear s C;go_wp2;go_ret2;refine⟨p,cap,UG,F.out,by rw[bb.out];exact bd,Al _ _,.inl ⟨rfl,rfl,rfl⟩⟩
 | true =>
  obtain⟨b,G⟩:∃b,strOfNums l=b:=⟨_,rfl⟩;have bx:Hid (Cl l=(b,0)):=by unfold Hid;rw[<-G];exact Amg s.out (by rw[bb.out];exact be)
  have bl:Hid (Ap b=l):=by unfold Hid;rw[<-G];exact Mo _ λc b0=>by have:=VG s.out c b0;omega
  have b6:b.size<=4096:=by rw[<-G,Et,bb.out];exact be
  obtain⟨X,L⟩:∃X,Hid (Ft (Ap b)=X):=⟨_,rfl⟩;have ac:Hid ((if X=true then Jv (Ap b) else(l,0))=(y,E)):=by
   have b1:Ft l=X:=by rw[<-L.out,bl.out]
   have:=C.out;unfold EV at this;rw[s.out,b1]at this;unfold Hid;rw[bl.out,<-this];cases X<;>simp
  clear G s C;go_wp2_with fail;refine(AcE p cap n l b 0 _ F.out (by rw[bb.out];unfold maxLen;omega) bb.out bx).mono ?_;rintro e w2 ⟨rfl,q⟩;have k:=U q;clear q;go_wp2_with fail;refine(WC b X _ O L).mono ?_;rintro e w3 ⟨rfl,q⟩;replace k:=U (k.out.trans (q.mono k.out.size));clear q;cases X with
  | false =>
   have A:=ac.out;rw[V J]at A;injection A with ad am;subst ad;subst am;clear L ac;go_wp2;go_ret2;refine⟨p,cap,UG,F.out.below k.out,by rw[bb.out];exact bd,k.out,.inl ⟨rfl,rfl,rfl⟩⟩
  | true =>
   have b2:Hid (Jv (Ap b)=(y,E)):=by have:=ac.out;rwa[N rfl]at this
   clear L ac;go_wp2_with fail;refine(Aj0 b y E _ O b2).mono ?_;rintro e b7 ⟨v4,rfl,a9,q⟩;obtain⟨b3,b4,rfl,bs,bt⟩:=F8 a9;have bv:=U (Iv a9 k.out.size);have b5:=U bs;replace k:=U (k.out.trans (q.mono k.out.size));clear a9 bs q;obtain⟨m,a'⟩:∃m,y.length=m:=⟨_,rfl⟩;rw[a']at bv bt|-;have ba:=U a';clear a';go_wp2;go_ret2;refine⟨b3,b4,by rw[ba.out];rfl,b5.out,by rw[ba.out];exact bt,k.out,.inr ?_⟩;unfold Ak;rw[ba.out];exact bv.out
def AuF(x:TV)(T:Y)(p:Option Addr)(n cap:Nat)(l y:List Int)(E:Int)(w:World)(bc:Ah w x T)(bd:Bi w)(be:Aq w p l)(bl:Hid (l.length=n))(b3:n<=cap)(bs:n<=4096)(bt:Hid (A8 T l=(y,E))):Calls prog 68 #[x.agg,.slice p n cap] w (P5 p cap l y E w):=by
 obtain⟨z,F,hF⟩:∃z F,Hid (EV l=(z,F)):=⟨_,_,rfl⟩;obtain⟨s,bv⟩:∃s,Hid (Cn T z=s):=⟨_,rfl⟩;have b:Hid ((if F≠0 then([],F)else if s≠0 then([],s) else(z,0))=(y,E)):=by
  unfold Hid;rw[<-bt.out];unfold A8;rw[hF.out,bv.out]
 have b4:z.length<=4096:=by have:=Adw l (by rw[bl.out];exact bs);rwa[hF.out]at this
 have ac:=U (Am.new bc);have b5:=U be;have b6:=U bd;clear bc be bd bt;simp only[TV.agg];go_enter func68,ntmps68;go_wp2_with fail;refine(AlZ p n cap l z F _ (b5.out.below ac.out.ab) bl b3 bs hF).mono ?_;rintro e w1 ⟨q,c,rfl,bx,b0,A,b1⟩;have a':=λW (C:Ah W x T) b7 b8=>AuW x T q c z s W C b7 b8 O bv;have ad:Hid ((q=p/\c=cap/\z=l)\/Ak w1 w.heap.size (.slice q z.length c) z):=by
  rcases b1 with h|h
  ·exact .inl h
  ·exact .inr (Iv h ac.out.ab.size)
 replace ac:=U (ac.out.step A);obtain⟨m,ba⟩:∃m,z.length=m:=⟨_,rfl⟩;rw[ba]at a' b0 ad b4|-;have bb:=U ba;have b9:=U a';have am:=U bx;clear A b1 bx a' ba;by_cases a9:F=0
 ·subst a9;have b':((0:Int) !=0)=false:=rfl;replace b:=b.out;rw[V J]at b;replace b:=U b;obtain⟨⟨ca,cb,cc,cd,ce,cf⟩,⟨cg,ci,cj,cl,cm,co⟩⟩:=ac.out.box.load;go_wp2_with fail;refine(b9.out _ ac.out.tab (b6.out.below ac.out.ab) (am.out)).mono ?_;rintro e w2 ⟨rfl,A⟩;replace ac:=U (ac.out.step A);replace am:=U (am.out.below A);have b2:Hid ((q=p/\c=cap/\z=l)\/Ak w2 w.heap.size (.slice q m c) z):=by
   rcases ad.out with h|h
   ·exact .inl h
   ·exact .inr (h.below A)
  clear ad;clear A;clear ca cb cc cd ce cf cg ci cj cl cm co;by_cases C:s=0
  ·subst C;have k:=b.out;rw[V J]at k;injection k with G L;subst G;subst L;clear b;go_wp2;go_ret2;exact⟨q,c,by rw[bb.out];rfl,am.out,by rw[bb.out];exact b0,ac.out.ab,by rw[bb.out];exact b2.out⟩
  ·have cp:(s !=0)=true:=by simp[C]
   have k:=b.out;rw[N C]at k;injection k with G L;subst G;subst L;clear b C b2;exact Axw
 ·have b':(F !=0)=true:=by simp[a9]
  have k:=b.out;rw[N a9]at k;injection k with G L;subst G;subst L;clear b a9 ad;exact Axw
def Ap3(x:TV)(T:Y)(s:ByteArray)(L:List Int)(K:Nat)(E:Int)(w:World)(cb:Ah w x T)(cc:Bi w)(cI:s.size<=140737488355328)(cd:Hid (Lz T s.data.toList=(L,K,E))):Calls prog 66 #[x.agg,.string s] w (Vw L K E w):=by
 obtain⟨ad,b4⟩:∃ad,Hid (Av T=ad):=⟨_,rfl⟩;obtain⟨D,b5,am,eo⟩:∃D b5 am,Hid (Bo s.data.toList=(D,b5,am)):=⟨_,_,_,rfl⟩;obtain⟨M,b6,a9,dn⟩:∃M b6 a9,Hid (Bl T D=(M,b6,a9)):=⟨_,_,_,rfl⟩;obtain⟨b7,ce⟩:∃b7,Hid (Bu T M=b7):=⟨_,rfl⟩;obtain⟨b8,cf⟩:∃b8,Hid (BU T M=b8):=⟨_,rfl⟩;have b:Hid ((if ad≠0 then([],0,2)else if s.data.toList=[] then([],0,10)else if am≠0 then([],b5,am)else if a9≠0 then([],b6,a9) else(b8,0,b7))=(L,K,E)):=by
  unfold Hid;rw[<-cd.out];unfold Lz;rw[b4.out,eo.out];simp only;rw[dn.out];simp only;rw[ce.out,cf.out]
 have cO:D.length<=4096:=Aw6;have c2:M.length<=4096:=AhD;have ac:=U (Am.new cb);have b':=U cc;have cs:Hid (FM s.data.toList=(D,(b5:Int),am)):=AhX;clear cb cc cd eo;simp only[TV.agg];go_enter func66,ntmps66;obtain⟨⟨a',ba,bb,bc,bd,be⟩,⟨bl,bs,bt,bv,bx,b0⟩⟩:=ac.out.box.load;go_wp2_with fail;refine(VQ x T ad _ ac.out.tab (b'.out.below ac.out.ab) b4).mono ?_;rintro e w1 ⟨rfl,k⟩;replace ac:=U (ac.out.step k);clear k;clear a' ba bb bc bd be bl bs bt bv bx b0;by_cases b1:ad=0
 ·have ct:(ad !=0)=false:=by simp[b1]
  replace b:=b.out;rw[V O]at b;replace b:=U b;clear b4 b1;by_cases q:s.size=0
  ·have b2:s.data.toList=[]:=Bw q;have cu:=Uj s q;have m:=b.out;rw[N b2]at m;injection m with A c;injection c with c C;subst A;subst c;subst C;clear b b2 q;exact ZN
  ·have b2:s.data.toList≠[]:=λh=>q Awv;have cu:=Ui s q;replace b:=b.out;rw[V b2]at b;replace b:=U b;clear b2 q;go_wp2_with fail;refine(AlY s _ BQ).mono ?_;rintro e w2 ⟨c3,rfl,ca,k⟩;rw[cs.out]at ca|-;replace ac:=U (ac.out.step k);obtain⟨cg,cv,rfl,ci,cx⟩:=F8 ca;have cj:Hid (Aq w2 cg D):=ci;have b3:=λW (q:Ah W x T) F G=>Apr x T cg cv D M b6 a9 W q F G O dn;simp only at b3|-;clear ca ci k cx;by_cases F:am=0
   ·subst F;replace b:=b.out;rw[V J]at b;replace b:=U b;obtain⟨c4,cl⟩:∃n,D.length=n:=⟨_,rfl⟩;rw[cl]at b3|-;have cm:=U b3;clear cl b3;obtain⟨⟨a',ba,bb,bc,bd,be⟩,⟨bl,bs,bt,bv,bx,b0⟩⟩:=ac.out.box.load;go_wp2_with fail;refine(cm.out _ ac.out.tab (b'.out.below ac.out.ab) cj.out).mono ?_;rintro e w3 ⟨c5,rfl,co,k⟩;replace ac:=U (ac.out.step k);clear k;clear a' ba bb bc bd be bl bs bt bv bx b0;obtain⟨cy,cA,rfl,cp,cB⟩:=F8 co;have cC:=U cp;have b9:=λW (q:Ah W x T) F G=>Aei x T cy cA M b7 b8 W q F G O ce cf;clear co cp cB cm cj;by_cases G:a9=0
    ·subst G;replace b:=b.out;rw[V J]at b;injection b with A c;injection c with c C;subst A;subst c;subst C;obtain⟨c6,cq⟩:∃n,M.length=n:=⟨_,rfl⟩;rw[cq]at b9|-;have cD:=U b9;clear cq b9;obtain⟨⟨a',ba,bb,bc,bd,be⟩,⟨bl,bs,bt,bv,bx,b0⟩⟩:=ac.out.box.load;go_wp2_with fail;refine(cD.out _ ac.out.tab (b'.out.below ac.out.ab) cC.out).mono ?_;rintro e c7 ⟨v4,rfl,cr,k⟩;have cF:=U (Iv cr ac.out.ab.size);replace ac:=U (ac.out.step k);clear k cr;clear a' ba bb bc bd be bl bs bt bv bx b0;go_wp2;go_ret3;exact⟨_,rfl,cF.out,ac.out.ab⟩
    ·have c8:(a9 !=0)=true:=by simp[G]
     clear b9;have m:=b.out;rw[N G]at m;injection m with A c;injection c with c C;subst A;subst c;subst C;clear b G;exact ZN
   ·have c9:(am !=0)=true:=by simp[F]
    clear b3;have m:=b.out;rw[N F]at m;injection m with A c;injection c with c C;subst A;subst c;subst C;clear b F;exact ZN
 ·have ct:(ad !=0)=true:=by simp[b1]
  have m:=b.out;rw[N b1]at m;injection m with A c;injection c with c C;subst A;subst c;subst C;clear b b4 b1;exact ZN
def Wz(x:TV)(T:Y)(s:ByteArray)(L:List (List Int))(K:Nat)(E:Int)(w:World)(co:Ah w x T)(cC:Bi w)(dm:s.size<=140737488355328)(cD:Hid (A9 T s.data.toList=(L,K,E))):Calls prog 39 #[x.agg,.string s] w (Le L K E w):=by
 obtain⟨m,cb,F,cc⟩:∃m cb F,Hid (Lz T s.data.toList=(m,cb,F)):=⟨_,_,_,rfl⟩;have A:Hid ((if F≠0 then([],cb,F)else DX T m)=(L,K,E)):=by unfold Hid;rw[<-cD.out,Ae7,cc.out]
 have dn:m.length<=4096:=by have:=Ap2 (T:=T) (s:=s.data.toList);rwa[cc.out]at this
 have dq:=U co;have ac:=U (Am.new co);have cp:=U cC;clear co cC cD;simp only[TV.agg];go_enter func39,ntmps39;obtain⟨⟨ad,am,a9,ba,bl,bs⟩,⟨bv,bx,b1,b2,b3,b4⟩⟩:=ac.out.box.load;go_wp2_with fail;refine(Ap3 x T s m cb F _ ac.out.tab (cp.out.below ac.out.ab) dm cc).mono ?_;rintro e w1 ⟨dT,rfl,cF,b⟩;replace ac:=U (ac.out.step b);clear b;clear ad am a9 ba bl bs bv bx b1 b2 b3 b4;obtain⟨ds,dx,rfl,cI,cO⟩:=F8 cF;have c2:=U cI;clear cF cI;by_cases cd:F=0
 ·subst cd;replace A:=A.out;rw[V J]at A;replace A:=U A;obtain⟨dy,cq⟩:∃n,m.length=n:=⟨_,rfl⟩;rw[cq]at cO dn|-;have cr:=U cq;clear cq cc;go_wp2_with fail;refine(AoN ds dy dx m _ c2.out cr cO O).mono ?_;rintro e w2 ⟨g,b6,rfl,eW,b⟩;have dz:Hid (w.heap.size<g):=Av5;have b7:=U (eW.mono ac.out.ab.size);replace ac:=U (ac.out.step b);have c3:Hid (∀z∈AU m,z.length<=4096):=λz b5=>by have:=S7 m z b5;have:=cr.out;omega
  have c4:(AU m).length<=4097:=by have:=VV m;have:=cr.out;omega
  have c5:1<=(AU m).length:=KT.2 (S8 m);obtain⟨X,ce⟩:∃X,AU m=X:=⟨_,rfl⟩;rw[ce]at b7 c3 c4 c5;have eh:=U ce;obtain⟨n,b8⟩:∃n,X.length=n:=⟨_,rfl⟩;rw[ce,b8];rw[b8]at c4 c5;have bb:=U b8;have kt:=b7.out.room;rw[b8]at kt;have dU:Hid (g<w2.heap.size):=b7.out.hi;clear eW b ce b8 c2;have dE:=dq;go_wp2;go_loopw[30] (λi wr=>∃k:Nat,k<=n/\i=.int .i64 k/\Hid (∀j,j<k->(A8 T (X.getD j [])).2=0)/\Hid (DJ wr w.heap.size g b6 (DD T X k))/\Hid (Am w x T wr)) (λi _=>n-(intOf i).toNat)
  case atStart=>exact⟨0,Au _,rfl,λj dF=>O,by unfold Hid;rw[Ad8];exact b7.out,ac⟩
  case round=>
   clear b7 ac;obtain⟨k,dV,rfl,cA,eW,bc⟩:=hrel;have dG:Hid ((DD T X k).length=n):=by unfold Hid;rw[Xb,bb.out]
   by_cases c6:k<n
   ·have cf:k<X.length:=by rw[bb.out];exact c6
    have cg:k<(DD T X k).length:=by rw[dG.out];exact c6
    obtain⟨v,b9,⟨q,c,rfl,ci,cj,_⟩,_⟩:=eW.out.hd k cg;have c7:=eW.out.soft k cg;rw[QG T X k cf]at b9 ci cj;obtain⟨l,cl⟩:∃l,X.getD k []=l:=⟨_,rfl⟩;have c8:l.length<=4096:=c3.out l (by rw[<-cl];simp[List.getD,cf]);rw[cl]at b9 ci cj;have b':=U cl;have dH:=U cg;have ku:=U cf;have c9:=U b9;have dJ:=U cj;have dK:=U c7;obtain⟨y,h,ca⟩:∃y h,Hid (A8 T l=(y,h)):=⟨_,_,rfl⟩;obtain⟨c',cs⟩:∃n,l.length=n:=⟨_,rfl⟩;rw[cs]at b9 ci c8;have da:=U cs;have db:g<wr.heap.size:=eW.out.hi;have dc:=U db;clear cl cf cg cj c7 cs db;obtain⟨⟨ad,am,a9,ba,bl,bs⟩,⟨bv,bx,b1,b2,b3,b4⟩⟩:=bc.out.box.load;go_wp2_with fail;refine(AuF x T q c' c l y h _ bc.out.tab (cp.out.below bc.out.ab) dJ.out da ci c8 ca).mono ?_;rintro e w3 ⟨cu,cv,rfl,dL,dM,b,df⟩;have dj:=eW.out.cz dH.out (by rw[QG T X k ku.out,b'.out]) c9.out b df;have dW:w3.cell? ⟨g,k,none⟩=some (.slice q c' c):=(b.cell (p:=⟨g,k,none⟩) dc.out).trans (by rw[c9.out,da.out]);have dX:w3.frozen? ⟨g,k,none⟩=false:=(EN (b.block g dc.out)).trans dK.out;have cx:Hid (Am w x T (w3.setCell ⟨g,k,none⟩ (.slice cu y.length cv))):=(bc.out.step b).bm dE.out dz.out;have cm:Hid (DJ (w3.setCell ⟨g,k,none⟩ (.slice cu y.length cv)) w.heap.size g b6 ((DD T X k).set k y)):=dj;obtain⟨dN,dk⟩:∃n,y.length=n:=⟨_,rfl⟩;rw[dk]at cx cm dM|-;clear dL b df dj eW bc b9 dk;clear ad am a9 ba bl bs bv bx b1 b2 b3 b4;by_cases a':h=0
    ·subst a';have d':((0:Int) !=0)=false:=rfl;have dO:Hid (DJ (w3.setCell ⟨g,k,none⟩ (.slice cu dN cv)) w.heap.size g b6 (DD T X (k+1))):=by
      have:=cm.out;have e:y=(A8 T (X.getD k [])).1:=by rw[b'.out,ca.out]
      exact Axi
     have dP:Hid (∀j,j<k+1->(A8 T (X.getD j [])).2=0):=λj dF=>by
      by_cases e:j=k
      ·rw[e,b'.out,ca.out]
      ·exact RO
     clear cm;go_wp2;go_roundw
     case rel=>exact⟨k+1,O,An,dP,dO,cx⟩
     case measure=>first|(simp[intOf];done)|(simp[intOf];omega)
    ·have d':(h !=0)=true:=by simp[a']
     have b0:=A.out;rw[XM (T:=T) (m:=m) (j:=k) AhY AhZ (by rw[eh.out,b'.out,ca.out];exact a'),eh.out,b'.out,ca.out]at b0;injection b0 with bt bd;injection bd with bd ct;subst bt;subst bd;simp only at ct;subst ct;clear A cm a';go_wp2;go_ret3;exact Le.nil _ _ cx.out.ab
   ·obtain rfl:k=n:=by omega
    obtain⟨C,h9⟩:∃C,(X.map λx=>(A8 T x).1)=C:=⟨_,rfl⟩;obtain⟨G,h,cy⟩:∃G h,Hid (Cu T C=(G,h)):=⟨_,_,rfl⟩;have cB:=Ae4 (T:=T) (m:=m) (K:=G) (E:=h) (by rw[eh.out,bb.out];exact cA.out) (by rw[eh.out,h9];exact cy.out);rw[eh.out,h9]at cB;have kr:Hid ((if h≠0 then([],G.toNat,h) else(C,0,0))=(L,K,E)):=by unfold Hid;rw[<-cB];exact A.out
    obtain⟨dQ,dR⟩:∃n:Nat,G=(n:Int):=⟨G.toNat,(by have:=Al3 T C;rw[cy.out]at this;exact this.symm)⟩;subst dR;rw[Ef]at kr;have iS:Hid (DJ wr w.heap.size g b6 C):=AwB;have ks:Hid (C.length=k):=by unfold Hid;rw[<-h9,C6,bb.out]
    have dS:Hid (∀l∈C,l.length<=17592186043904):=λl cl=>Avk;clear cB h9 A eW cA;obtain⟨⟨ad,am,a9,ba,bl,bs⟩,⟨bv,bx,b1,b2,b3,b4⟩⟩:=bc.out.box.load;go_wp2_with fail;refine(Akx x T (some ⟨g,0,none⟩) k b6 C dQ h _ bc.out.tab (cp.out.below bc.out.ab) iS.out.ap ks ⟨O,O⟩ dS.out cy).mono ?_;rintro e w3 ⟨rfl,b⟩;replace bc:=U (bc.out.step b);replace iS:=U (iS.out.below b);clear b;clear ad am a9 ba bl bs bv bx b1 b2 b3 b4;by_cases a':h=0
    ·subst a';exact AxY
    ·have d':(h !=0)=true:=by simp[a']
     exact AzT
 ·have dY:(F !=0)=true:=by simp[cd]
  have b0:=A.out;rw[N cd]at b0;injection b0 with bt bd;injection bd with bd ct;subst bt;subst bd;subst ct;clear A cd;exact RT
def Aa'(T:Y)(p:Option Addr)(n cap:Nat)(L:List (List Int))(X:List Int)(K:Nat)(E:Int)(S:ByteArray)(w:World)(b3:Ey w p L)(bd:Hid (L.length=n))(c5:n<=4097)(b4:Hid (∀y∈L,Cn T y=0))(ba:Hid (Fk L=(X,K,E)))(eF:Hid (strOfNums X=S)):Calls prog 46 #[.slice p n cap] w (Ar (.tuple #[.string S,.int .i64 K,.int .i64 E]) w):=by
 obtain⟨cj,dI,cl,cm,dE⟩:=Cp info9;have co:=U b3;obtain⟨M,be⟩:∃M,(L.map λy=>strOfNums (AE y).1)=M:=⟨_,rfl⟩;have h:Hid (M.length=n):=by unfold Hid;rw[<-be,C6,bd.out]
 have b5:=U be;clear b3 be;go_enter func46,ntmps46;go_wp2_with (at_make;refine PI _ rfl _ _ 43 rfl w.heap.size 9 cj (.string ByteArray.empty) 1 underlying43 dI cl cm .i64 .i64 _ _ n rfl rfl rfl rfl I3 BQ (Ac _) ?_;intro w2 bl b6);have s:w2.ownsRow w.heap.size 9 1 (.slice (some ⟨w.heap.size,0,none⟩) n n) n ((Js M 0).map Value.string):=by
  have e:(madeCells (Value.string ByteArray.empty).cells (n*1)).toList=List.replicate (n*1) (.string ByteArray.empty):=PH _ _;rw[e]at bl;rw[AqR,h.out];simpa using bl
 have b7:=U s;have b8:Hid (Below w.heap.size w w2):=(Al _ _).grown b6 (Ac _) Zg;clear bl b6 s;go_wp2;go_loopw[17] (λi wr=>∃k:Nat,k<=n/\i=.int .i64 k/\Hid (∀j,j<k->(AE (L.getD j [])).2=0)/\Hid (wr.ownsRow w.heap.size 9 1 (.slice (some ⟨w.heap.size,0,none⟩) n n) n ((Js M k).map Value.string))/\Hid (Below w.heap.size w wr)) (λi _=>n-(intOf i).toNat)
 case atStart=>exact⟨0,Au _,rfl,λj cp=>O,b7,b8⟩
 case round=>
  clear b7 b8;obtain⟨k,c6,rfl,cA,bb,m⟩:=hrel;by_cases b9:k<n
  ·have G:k<L.length:=by rw[bd.out];exact b9
   have b':k<M.length:=by rw[h.out];exact b9
   obtain⟨b,ff,q,c,rfl,bs,bt,bv⟩:=(co.out.below m.out) k G;obtain⟨l,ac⟩:∃l,L.getD k []=l:=⟨_,rfl⟩;have ca:Cn T l=0:=b4.out l (by rw[<-ac];simp[List.getD,G]);have cq:l.length<=4096:=(CN (MB ca).1).2.1;have cr:Hid (M.getD k ByteArray.empty=strOfNums (AE l).1):=by unfold Hid;rw[<-b5.out,<-ac];simp[List.getD,G]
   rw[ac]at bs bt bv;have cF:=U ac;have cs:=U G;have ct:=U bv;obtain⟨Z,ad,h_⟩:∃Z ad,Hid (AE l=(Z,ad)):=⟨_,_,rfl⟩;obtain⟨A,cb⟩:∃A,Hid (strOfNums Z=A):=⟨_,rfl⟩;obtain⟨cu,bx⟩:∃n,l.length=n:=⟨_,rfl⟩;rw[bx]at bs bt cq;have cv:=U bx;have cc:=U b';clear ac G b' bv bx ca;go_wp2_with fail;refine(AaR q cu c l Z ad A _ ct.out cv bt O h_ cb).mono ?_;rintro e w3 ⟨rfl,C⟩;have am:=U (m.out.trans (C.mono m.out.size));have a9:=Kq bb.out C;clear C m bb bs;by_cases bc:ad=0
   ·subst bc;have cx:((0:Int) !=0)=false:=rfl;have cy:=a9.cellAt k O;rw[AqO M k cc.out]at cy;have c7:=a9.frozenAt k;have F:=a9.stored k (.string A);have b0:M.getD k ByteArray.empty=A:=by rw[cr.out,h_.out];exact cb.out
    rw[<-KV,<-b0,AqQ M k cc.out,b0]at F;have cB:=U F.1;have cC:=U (am.out.setCell (p:=⟨w.heap.size,k,none⟩) (Ac _) (.string A));have cD:Hid (∀j,j<k+1->(AE (L.getD j [])).2=0):=λj cp=>AAy;clear F a9 b0 am;go_wp2;go_roundw
    case rel=>exact⟨k+1,O,An,cD,cB,cC⟩
    case measure=>first|(simp[intOf];done)|(simp[intOf];omega)
   ·have cx:(ad !=0)=true:=by simp[bc]
    have cd:=ba.out;rw[Aa6 cs.out cA.out (by rw[cF.out,h_.out];exact bc),cF.out,h_.out]at cd;injection cd with cI b1;injection b1 with b1 ce;subst cI;subst b1;simp only at ce;subst ce;obtain rfl:S=ByteArray.empty:=Rw;clear ba eF bc a9;go_wp2;go_ret3;exact⟨rfl,am.out⟩
  ·obtain rfl:k=n:=by omega
   have s:=bb.out;rw[<-h.out,AqP,h.out]at s;have F:Hm wr w.heap.size (.slice (some ⟨w.heap.size,0,none⟩) k k) M:=by
    unfold Hm;rw[h.out];exact s
   obtain⟨c8,c9,cf,cg,ci⟩:=F.ap;rw[h.out]at cf ci;injection cf with cO _ c2;subst cO;subst c2;have c3:=U cg;obtain⟨a',b2⟩:=Aa_ b4.out (TD (X:=L) (P:=λy=>(AE y).2=0) (by rw[bd.out];exact cA.out));rw[b5.out,ba.out]at a';rw[ba.out]at b2;simp only at a' b2;rw[eF.out]at a';obtain rfl:K=0:=b2;have c4:=U a';clear a' F s bb cg ci;go_wp2_with fail;refine(ApK _ k k S E M _ c3.out h (Ac _) O c4).mono ?_;rintro e w3 ⟨rfl,C⟩;have am:=U (m.out.trans (C.mono m.out.size));clear C m;go_wp2;go_ret3;exact⟨rfl,am.out⟩
def Mj(x:TV)(T:Y)(s S:ByteArray)(X:List Int)(K:Nat)(E:Int)(w:World)(h:Ah w x T)(k:Bi w)(A:s.size<=140737488355328)(c8:Hid (Bf T s.data.toList=(X,K,E)))(eF:Hid (strOfNums X=S)):Calls prog 19 #[x.agg,.string s] w (Ar (.tuple #[.string S,.int .i64 K,.int .i64 E]) w):=by
 obtain⟨b,c,h',fp⟩:∃b c h',Hid (A9 T s.data.toList=(b,c,h')):=⟨_,_,_,rfl⟩;have ac:=U (Am.new h);have C:=U k;clear h k;simp only[TV.agg];go_enter func19,ntmps19;obtain⟨⟨F,G,L,am,a9,a'⟩,⟨ba,bb,bc,be,bs,bv⟩⟩:=ac.out.box.load;go_wp2_with fail;refine(Wz x T s b c h' _ ac.out.tab (C.out.below ac.out.ab) A fp).mono ?_;rintro e w1 ⟨bx,b1,b2,rfl,m,q,b8,b3,ad⟩;replace ac:=U (ac.out.step ad);clear ad;clear F G L am a9 a' ba bb bc be bs bv;have b4:=U m;have b5:=U q;clear m q;by_cases bl:h'=0
 ·subst bl;have ev:((0:Int) !=0)=false:=rfl;have bl:(A9 T s.data.toList).2.2=0:=by rw[fp.out]
  have b6:Hid (∀y∈b,Cn T y=0):=Ahz;have b7:Hid (Fk b=(X,K,E)):=Av';clear c8 bl fp;go_wp2_with fail;refine(Aa' T bx b1 b2 b X K E S _ b4.out b5 b3 b6 b7 eF).mono ?_;rintro e w2 ⟨rfl,ad⟩;exact AAB
 ·exact Ax4
def Aoj(x:TV)(T:Y)(s S:ByteArray)(X:List Int)(K:Nat)(E:Int)(w:World)(am:Ah w x T)(a9:Bi w)(b4:s.size<=140737488355328)(c8:Hid (JF T s.data.toList=(X,K,E)))(eF:Hid ((Cl X).1=S)):Calls prog 20 #[x.agg,.string s] w (Ar (.tuple #[.string S,.int .i64 K,.int .i64 E]) w):=by
 obtain⟨c,L,m,fp⟩:∃c L m,Hid (A9 T s.data.toList=(c,L,m)):=⟨_,_,_,rfl⟩;have ac:=U (Am.new am);have b5:=U a9;clear am a9;simp only[TV.agg];go_enter func20,ntmps20;obtain⟨⟨b6,b7,b8,b9,b',ca⟩,⟨cb,cc,cd,ce,cf,cg⟩⟩:=ac.out.box.load;go_wp2_with fail;refine(Wz x T s c L m _ ac.out.tab (b5.out.below ac.out.ab) b4 fp).mono ?_;rintro e w1 ⟨ba,bb,bc,rfl,bs,bv,ci,cj,b⟩;replace ac:=U (ac.out.step b);clear b;clear b6 b7 b8 b9 b' ca cb cc cd ce cf cg;have q:=U bs;have bx:=U bv;clear bs bv;by_cases bl:m=0
 ·subst bl;have cl:((0:Int) !=0)=false:=rfl;have bl:(A9 T s.data.toList).2.2=0:=by rw[fp.out]
  have cm:Hid (∀y∈c,Cn T y=0):=Ahz;obtain⟨A,C,k,b1⟩:∃A C k,Hid (Fk c=(A,C,k)):=⟨_,_,_,rfl⟩;obtain⟨ad,co⟩:∃ad,Hid (strOfNums A=ad):=⟨_,rfl⟩;have F:Hid (Bf T s.data.toList=(A,C,k)):=by
   unfold Hid Bf;rw[V (by rw[bl];simp),fp.out];exact b1.out
  clear bl;go_wp2_with fail;refine(Aa' T ba bb bc c A C k ad _ q.out bx cj cm b1 co).mono ?_;rintro e w2 ⟨rfl,b⟩;replace ac:=U (ac.out.step b);replace q:=U (q.out.below b);clear b;by_cases a':k=0
  ·subst a';have cp:((0:Int) !=0)=false:=rfl;have hI:=AgJ (T:=T) (s:=s.data.toList) (by rw[F.out]);rw[fp.out]at hI;simp only at hI;have b0:=c8.out;unfold JF at b0;rw[V (by rw[F.out];simp),fp.out]at b0;injection b0 with bt bd;injection bd with bd ct;simp only at bt;subst bd;subst ct;have cq:=U bt;rw[bt]at hI;have cr:Hid (Cl X=(S,0)):=Av0;have cs:=hI.2;clear hI c8 bt;go_wp2_with fail;refine(Aos ba bb bc c X _ q.out bx ci O cq Hj).mono ?_;rintro e w3 ⟨cB,rfl,b2,b⟩;replace ac:=U (ac.out.step b);obtain⟨cu,cv,rfl,b3,cx⟩:=F8 b2;have cy:=U b3;clear b b2 b3 cx;obtain⟨cA,G⟩:∃n,X.length=n:=⟨_,rfl⟩;rw[G]at cs|-;go_wp2_with fail;refine(AcE cu cv cA X S 0 _ cy.out (by rw[G];unfold maxLen;omega) G cr).mono ?_;rintro e cC ⟨rfl,b⟩;replace ac:=U (ac.out.step b);clear b G;exact ZK
  ·have cp:(k !=0)=true:=by simp[a']
   have b0:=c8.out;unfold JF at b0;rw[N (by rw[F.out];exact a'),F.out]at b0;exact AAH
 ·have cl:(m !=0)=true:=by simp[bl]
  have b0:=c8.out;unfold JF Bf at b0;rw[N (by rw[N AhK,fp.out];exact bl),N AhK,fp.out]at b0;injection b0 with bt bd;injection bd with bd ct;subst bt;subst bd;subst ct;obtain rfl:S=ByteArray.empty:=Rw;clear c8 eF bl;exact ZK
def Ae2(x:TV)(T:Y)(s S:ByteArray)(X:List Int)(K:Nat)(E:Int)(w:World)(b:Ah w x T)(c:Bi w)(k:s.size<=140737488355328)(m:Hid (Bf T s.data.toList=(X,K,E)))(q:Hid (strOfNums X=S)):Calls prog 38 #[x.agg,.string s] w (Ar (.tuple #[.int .i64 K,.int .i64 E]) w):=by
 have ac:=U (Am.new b);have A:=U c;clear b c;simp only[TV.agg];go_enter func38,ntmps38;obtain⟨⟨C,F,G,L,ad,am⟩,⟨a9,a',ba,bb,bc,bd⟩⟩:=ac.out.box.load;go_wp2_with fail;refine(Mj x T s S X K E _ ac.out.tab (A.out.below ac.out.ab) k m q).mono ?_;rintro e w1 ⟨rfl,h⟩;replace ac:=U (ac.out.step h);clear h C F G L ad am a9 a' ba bb bc bd;exact I6
def Qa(w:World)(a':Bi w):Calls prog 12 #[] w (Ar (.bool true) w):=by
 have ba:Ah (w.alloc (.cells (AG LM) 26)) LM LL:=AuZ _;have bb:=AS.new w LM 26;have bc:=(Al w.heap.size w).alloc (Ac _) (.cells (AG LM) 26);have a9:=U a';have b:Hid (J3 w w.heap.size LM LL (w.alloc (.cells (AG LM) 26))):=⟨ba,bb,bc⟩;clear a' bc ba bb;obtain⟨x,h⟩:∃x,LM=x:=⟨_,rfl⟩;have bd:AG LM=#[x.a0,x.a1,x.a2,x.a3,x.a4,x.a5,x.a6,x.a7,x.a8,x.a9,x.aB,x.ax]:=by first|(rw[h];done)|(rw[h];rfl)
 have be:Hid (#[x.a0,x.a1,x.a2,x.a3,x.a4,x.a5,x.a6,x.a7,x.a8,x.a9,x.aB,x.ax]=#[.slice none 0 0,.slice none 0 0,.slice none 0 0,.slice none 0 0,.slice none 0 0,.slice none 0 0,.slice none 0 0,.slice none 0 0,.slice none 0 0,.slice none 0 0,.slice none 0 0,.slice none 0 0]):=by unfold Hid;first|(rw[<-h];done)|(rw[<-h];rfl)
 rw[bd,be.out,h]at b;clear bd h be;go_enter func12,ntmps12;go_upto_region 2 with(fail);generalize w.alloc (.cells #[.slice none 0 0,.slice none 0 0,.slice none 0 0,.slice none 0 0,.slice none 0 0,.slice none 0 0,.slice none 0 0,.slice none 0 0,.slice none 0 0,.slice none 0 0,.slice none 0 0,.slice none 0 0] 26)=bl at b|-;obtain⟨⟨k,m,q,s,A,C⟩,⟨F,G,L,ac,ad,am⟩⟩:=b.out.box.load;go_wp2_with fail;refine(Mj x LL (ByteArray.mk #[69,120,97,109,112,108,101]) (ByteArray.mk #[101,120,97,109,112,108,101]) [101,120,97,109,112,108,101] 0 0 _ b.out.tab (a9.out.below b.out.ab) Aw (U il1) (U il4)).mono ?_;rintro e w1 ⟨rfl,c⟩;replace b:=U (b.out.step c);clear c k m q s A C F G L ac ad am;obtain⟨⟨k,m,q,s,A,C⟩,⟨F,G,L,ac,ad,am⟩⟩:=b.out.box.load;go_wp2_with fail;refine(Ae2 x LL (ByteArray.mk #[97,46,46,98]) ByteArray.empty [] 1 10 _ b.out.tab (a9.out.below b.out.ab) Aw (U il2) (U rfl)).mono ?_;rintro e w2 ⟨rfl,c⟩;replace b:=U (b.out.step c);clear c k m q s A C F G L ac ad am;obtain⟨⟨k,m,q,s,A,C⟩,⟨F,G,L,ac,ad,am⟩⟩:=b.out.box.load;go_wp2_with fail;refine(Ae2 x LL (ByteArray.mk #[120,110,45,45,57]) ByteArray.empty [] 0 12 _ b.out.tab (a9.out.below b.out.ab) Aw (U il3) (U rfl)).mono ?_;rintro e w3 ⟨rfl,c⟩;replace b:=U (b.out.step c);clear c k m q s A C F G L ac ad am;have fO:=U b.out.ab;exact AiZ
end Go.Proofs.YtblcoicaeeiojaaGreatDoor
