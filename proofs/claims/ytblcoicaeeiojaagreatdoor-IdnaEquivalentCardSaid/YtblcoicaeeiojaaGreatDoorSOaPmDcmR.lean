/- The references of order: -/
import Derived.Test.YtblcoicaeeiojaaGreatDoorSOaPmCmpC
set_option linter.all false
set_option maxHeartbeats 16000000
set_option maxRecDepth 100000
open Go.Proofs.Tryz
namespace Go.Proofs.YtblcoicaeeiojaaGreatDoor
open Go.RowKit
def Asc(x:TV)(T:Y)(c:Int)(X:List Int)(w:World)(q:Ah w x T)(m:Av T=0)(eE:Hid (Br T c=X)):Calls prog 131 #[x.agg,.int .i64 c] w (MX X w):=by
 obtain⟨b,fJ⟩:∃b,Hid (BK c=b):=⟨_,rfl⟩;obtain⟨n,s⟩:∃n,b.length=n:=⟨_,rfl⟩;have am:Hid (b≠[]->X=b):=λh=>Axg;have a9:Hid (b=[]->X=F6 T.dec c):=λh=>by rw[<-eE.out];unfold Br;rw[fJ.out,N h]
 have a':Hid (X.length<=18):=by unfold Hid;rw[<-eE.out];exact(Th m c).2
 have ba:Hid (G9 T.dec 257 [c]=some (F6 T.dec c)):=by unfold Hid;rw[Wl (Acm m),N (T0 (CO m).2.2.2.2 c)]
 have bc:=U (V2 m);have k:=U (Am.new q);have bb:=U s;clear q s m eE;simp only[TV.agg];go_enter func131,ntmps131;go_wp2_with fail;refine(Asg c b _ fJ).mono ?_;rintro e w1 ⟨cb,cc,rfl,A,C⟩;rw[bb.out];replace k:=U (k.out.step C);have bd:=U A;clear A C;by_cases be:0<n
 ·have cd:decide ((0:Int)<(n:Int))=true:=At O;have bl:Hid (X=b):=am.out (λe=>Ahv);go_wp2;go_ret;have F:=a'.out;rw[bl.out]at F|-;rw[bb.out]at F;exact⟨_,_,_,rfl,bb.out,O,bd.out,k.out.ab⟩
 ·obtain rfl:n=0:=by omega
  have bs:Hid (b=[]):=Bw bb.out;have bt:Hid (X=F6 T.dec c):=a9.out bs.out;clear be;obtain⟨⟨bv,bx,b0,b1,b2,b3⟩,⟨b4,b5,b6,b7,b8,b9⟩⟩:=k.out.box.load;go_wp2_with fail;refine(T4 x T c _ _ k.out.tab bc.out ba).mono ?_;rintro e w2 ⟨G,_,L⟩;obtain⟨ce,cf,cg,rfl,ac,ci,ad⟩:=G _ rfl;replace k:=U (k.out.step L);have b':=U ac;have ca:=U ad;clear G L ac ad bv bx b0 b1 b2 b3 b4 b5 b6 b7 b8 b9;go_wp2;go_ret;rw[bt.out];exact⟨_,_,_,rfl,b'.out,O,ca.out,k.out.ab⟩
def Asy(x:TV)(T:Y)(p:Option Addr)(cap:Nat)(ao:List Int)(E:Int)(L:List Int)(w:World)(bv:Ah w x T)(b':Du x)(ca:Aq w p ao)(cb:ao.length<=17592186043904)(cr:Hid (Bu T ao=E))(df:Hid (FQ T ao=L)):Calls prog 90 #[x.agg,.slice p ao.length cap] w (M0 L E w):=by
 obtain⟨A,co⟩:∃A,Hid (AB T ao=A):=⟨_,rfl⟩;have ac:=U (Am.new bv);have cB:=U bv;have cc:=U ca;have bx:=λW (b0:Ah W x T) b1=>Afq x T p cap ao A W b0 b' b1 cb co;obtain⟨n,b2⟩:∃n,ao.length=n:=⟨_,rfl⟩;rw[b2]at cb bx|-;have bb:=U b2;have cD:=U bx;clear bv ca b2 b' bx;simp only[TV.agg];go_enter func90,ntmps90;obtain⟨⟨m,q,s,C,F,G⟩,⟨ad,am,a9,a',ba,bd⟩⟩:=ac.out.box.load;go_wp2_with fail;refine(cD.out _ ac.out.tab (cc.out.below ac.out.ab)).mono ?_;rintro e w1 ⟨rfl,cC⟩;have cF:Hid (w.heap.size+1<=w1.heap.size):=UB;replace ac:=U (ac.out.step cC);clear cC m q s C F G ad am a9 a' ba bd;by_cases bl:A=0
 ·subst bl;have dy:n<=4096:=Pv;have b3:Hid (Av T=0):=(CN co.out).1;go_wp2;go_loopw[7,9,18] (λu _ i wr=>∃k:Nat,k<=n/\i=.int .i64 k/\Hid (Ak wr (w.heap.size+1) u (AQ T (ao.take k)))/\Hid (Am w x T wr)/\Hid (w1.heap.size<=wr.heap.size)) (λ_ _ i _=>n-(intOf i).toNat)
  case atStart=>exact⟨0,Au _,rfl,by simpa[Hid,AQ] using Ak.nil _ _,ac,Ac _⟩
  case round=>
   obtain⟨k,dz,rfl,cd,bc,ce⟩:=hrel;by_cases cI:k<n
   ·have cf:k<ao.length:=by rw[bb.out];exact cI
    obtain⟨b,ff,rfl,cg⟩:=(cc.out.below bc.out.ab) k cf;obtain⟨c,ci⟩:∃c,ao.getD k 0=c:=⟨_,rfl⟩;have bs:=VA T ao k cf;have cj:=(Aj2 b3.out (ao.take k)).2;rw[ci]at cg bs;obtain⟨X,b4⟩:∃X,Hid (Br T c=X):=⟨_,rfl⟩;rw[b4.out]at bs;have cO:=U bs;have c2:Hid ((AQ T (ao.take k)).length+X.length<=17592186043904):=by
     unfold Hid;have:=(Th b3.out c).2;rw[b4.out]at this;rw[GL]at cj;omega
    clear ci bs cj;obtain⟨⟨m,q,s,C,F,G⟩,⟨ad,am,a9,a',ba,bd⟩⟩:=bc.out.box.load;go_wp2_with fail;refine(Asc x T c X _ bc.out.tab b3.out b4).mono ?_;rintro e w2 ⟨c3,c4,c5,rfl,cl,c6,cm,be⟩;have c7:=U (bc.out.step be);have cp:=U (cd.out.below be);have c8:=U be.size;have cq:w.heap.size+1<=w2.heap.size:=Af cF.out (Af ce.out be.size);have c9:=U cl;have c':=U cm;clear be cl c6 cm cg m q s C F G ad am a9 a' ba bd;go_wp2_with (at_builtin;(refine De (.tmp 22) (.tmp 25) rfl rfl (w.heap.size+1) u7 (AQ T (ao.take k)) rfl cp.out c3 c4 c5 X c9.out rfl c'.out c2.out cq ?_);intro da w3 cs b5);have b6:Hid (Ak w3 (w.heap.size+1) da (AQ T (ao.take (k+1)))):=by unfold Hid;rw[cO.out];exact cs
    have db:Hid (Am w x T w3):=c7.out.aI cB.out cp.out b5;have dc:Hid (w1.heap.size<=w3.heap.size):=Af ce.out (Af c8.out b5.size);clear cs b5 cq;go_wp2;go_roundw
    case rel=>exact⟨k+1,O,An,b6,db,dc⟩
    case measure=>simp[intOf];omega
   ·obtain rfl:k=n:=by omega
    have b7:=cd.out;rw[AO (BW bb.out)]at b7;obtain⟨dj,dk,ct,cu⟩:=b7.ap;have dm:=U cu;obtain⟨h,b8⟩:∃h,(AQ T ao).length=h:=⟨_,rfl⟩;have b9:=λW (b0:Ah W x T) b1 (dn:(AQ T ao).length<=4096)=>AsA x T dj dk (AQ T ao) (Bh (Ao T) (AQ T ao)) W b0 b1 dn rfl;rw[b8]at ct b9;subst ct;have dq:=U b9;have cv:=U b8;clear b7 cu b8 b9;by_cases bt:4096<h
    ·have ds:decide ((4096:Int)<(h:Int))=true:=At O;have i7:Bu T ao=7:=Ael co.out (by rw[cv.out];exact bt);have ek:Hid (E=7):=AhE;have fx:Hid (L=[]):=AwK;clear bt i7;exact Av2
    ·have ds:decide ((4096:Int)<(h:Int))=false:=Ai O;have dE:¬(4096<h):=bt;have cx:h<=4096:=O;have i7:Bu T ao=0:=TH co.out (by rw[cv.out];exact cx);have ek:Hid (E=0):=AhE;have fx:Hid (L=Bh (Ao T) (AQ T ao)):=by unfold Hid;rw[<-df.out];exact Ly i7
     clear bt i7;obtain⟨⟨m,q,s,C,F,G⟩,⟨ad,am,a9,a',ba,bd⟩⟩:=bc.out.box.load;go_wp2_with fail;refine(dq.out _ bc.out.tab dm.out cx).mono ?_;rintro e w3 ⟨dF,rfl,cy,cA⟩;have b6:=U (cy.mono bc.out.ab.size);have dx:=U (bc.out.step cA).ab;clear cy cA m q s C F G ad am a9 a' ba bd;go_wp2;go_ret2;rw[ek.out,fx.out];exact⟨_,rfl,b6.out,dx.out⟩
 ·have dG:(A !=0)=true:=by simp[bl]
  have ek:Hid (E=A):=Azn;have fx:Hid (L=[]):=Ay6;clear bl;exact AiU
def ArX(x: TV)(T: Y)(f: Int)(B: Bool)(w: World)(c: Ah w x T)(b: Av T = 0)(e: Hid (AV T f = B)) :
  Calls prog 89 #[x.agg,.int .i64 f] w (Ar (.bool B) w):=e.out▸XV T (Oq b) (V2 b) 256 x f w (Nb b f) c
def pq(T:Y)(a b:Int)(m:Mp):Bool:=decide (m.2=[a,b])&&AV T m.1
def AmQ{q:Mp->Bool}{l:List Mp}{k:Nat}(b:k<l.length)(h:(l.take k).find? q=none)(c:q (l.getD k Ay)=false):(l.take (k+1)).find? q=none:=by
 rw[KF l k b,Aal,h];simp only[List.find?_cons,c];rfl
def AmR{q:Mp->Bool}{l:List Mp}{k:Nat}(b:k<l.length)(h:(l.take k).find? q=none)(c:q (l.getD k Ay)=true):l.find? q=some (l.getD k Ay):=by
 have e:((l.take (k+1))++l.drop (k+1)).find? q=some (l.getD k Ay):=by
  rw[Aal,KF l k b,Aal,h];simp only[List.find?_cons,c];rfl
 rwa[FG]at e
def Art{T:Y}{a b:Int}{k:Nat}(c:k<T.dec.length)(h:(T.dec.take k).find? (pq T a b)=none):(decide ((T.dec.getD k Ay).2=[a,b])&&AV T (T.dec.getD k Ay).1)=false->(T.dec.take (k+1)).find? (pq T a b)=none:=
 λe=>AmQ c h e
def Aru{T:Y}{a b:Int}{k:Nat}(c:k<T.dec.length)(h:(T.dec.take k).find? (pq T a b)=none):(decide ((T.dec.getD k Ay).2=[a,b])&&AV T (T.dec.getD k Ay).1)=true->IZ T a b=((T.dec.getD k Ay).1,true):=by
 intro e;have:=AmR (q:=pq T a b) c h e;unfold IZ;rw[show (λm:Mp=>decide (m.2=[a,b])&&AV T m.1)=pq T a b from rfl,this]
def Ars{T:Y}{a b:Int}(h:T.dec.find? (pq T a b)=none):IZ T a b=(0,false):=by
 unfold IZ;rw[show (λm:Mp=>decide (m.2=[a,b])&&AV T m.1)=pq T a b from rfl,h]
def AsO(x:TV)(T:Y)(a b p:Int)(o:Bool)(w:World)(bc:Ah w x T)(bd:Av T=0)(ce:Hid (IX T a b=(p,o))):Calls prog 92 #[x.agg,.int .i64 a,.int .i64 b] w (Ar (.tuple #[.int .i64 p,.bool o]) w):=by
 obtain⟨⟨cs,cf⟩,be⟩:∃y,Hid (Fo a b=y):=⟨_,rfl⟩;obtain⟨a0,a1,a2,a3,a4,a5,ct,cu,cv,c7,cx,cy⟩:=x;obtain⟨pm,cA,am,cg,cB⟩:=bc.dec;obtain⟨n,a'⟩:∃n,T.dec.length=n:=⟨_,rfl⟩;rw[a']at am cB;simp only at am;subst am;have c8:n<=256:=by rw[<-a'];exact(Oq bd).len
 have ac:=U (Am.new bc);have cC:=U bd;have ci:=U a';have cD:=U cg;clear bc a' cg bd;simp only[TV.agg];go_enter func92,ntmps92;go_wp2_with fail;refine(Asf a b cs cf _ be).mono ?_;rintro e w1 ⟨rfl,rfl⟩;cases cf with
 | true =>
  have L:=ce.out;rw[Ag0 T be.out]at L;simp only[DY]at L;obtain⟨rfl,rfl⟩:=L;exact I6
 | false =>
  have L:Hid (IZ T a b=(p,o)):=by unfold Hid;rw[<-Ag1 T be.out];exact ce.out
  obtain⟨⟨bl,bs,bt,bv,bx,b0⟩,⟨b1,b2,b3,b4,b5,b6⟩⟩:=ac.out.box;go_wp2;go_loopw[23] (λi wr=>∃k:Nat,k<=n/\i=.int .i64 k/\Hid ((T.dec.take k).find? (pq T a b)=none)/\Hid (Am w ⟨a0,a1,a2,a3,a4,a5,ct,cu,cv,.slice pm n cA,cx,cy⟩ T wr)) (λi _=>n-(intOf i).toNat)
  case atStart=>exact⟨0,Au _,rfl,rfl,ac⟩
  case round=>
   obtain⟨k,c9,rfl,b7,a9⟩:=hrel;clear bl bs bt bv bx b0 b1 b2 b3 b4 b5 b6;by_cases cF:k<n
   ·have b8:k<T.dec.length:=by rw[ci.out];exact cF
    obtain⟨c',ff,v,rfl,cj,b9,cl,cm,rfl,ba,b'⟩:=(cD.out.below a9.out.ab) k b8;have c:=U (Art (T:=T) (a:=a) (b:=b) b8 b7.out);have h:=U (Aru (T:=T) (a:=a) (b:=b) b8 b7.out);obtain⟨⟨f,y⟩,co⟩:∃s,T.dec.getD k Ay=s:=⟨_,rfl⟩;rw[co]at cj b9 ba b' c h;simp only at cj b9 ba b' c h;obtain⟨m,ca⟩:∃m,y.length=m:=⟨_,rfl⟩;have ad:=U (a9.out.step ((Al wr.heap.size wr).alloc (Ac _) (.cells #[.int .i64 f,.slice cl m cm] 73)));have cp:=U (BE.alloc ba (.cells #[.int .i64 f,.slice cl m cm] 73));rw[ca]at b9 b';have cq:=U ca;clear co ba ca a9;by_cases am:m=2
    ·subst am;obtain⟨A,C,rfl⟩:∃A C,y=[A,C]:=by
      match y,cq.out with
      | [A,C],_=>exact⟨A,C,rfl⟩
     obtain⟨da,db,rfl,cI⟩:=cp.out 0 J;obtain⟨dc,df,cb,cO⟩:=cp.out 1 J;injection cb with cb;injection cb with c2 c3;subst c2;subst c3;simp only[DI,CS,E_]at cI cO;obtain⟨bb,cr⟩:∃bb,Hid (AV T f=bb):=⟨_,rfl⟩;simp only[cr.out]at c h;by_cases q:A=a
     ·have c4:(A==a)=true:=by simp[q]
      by_cases F:C=b
      ·have c5:(C==b)=true:=by simp[F]
       obtain⟨⟨bl,bs,bt,bv,bx,b0⟩,⟨b1,b2,b3,b4,b5,b6⟩⟩:=ad.out.box.load;go_wp2_with fail;refine(ArX _ T f bb _ ad.out.tab cC.out cr).mono ?_;rintro e w2 ⟨rfl,cc⟩;have kq:=U (ad.out.step cc);have dj:w2.cell? ⟨wr.heap.size,0,none⟩=some (.int .i64 f):=(cc.cell (p:=⟨wr.heap.size,0,none⟩) J).trans EL;clear cc bl bs bt bv bx b0 b1 b2 b3 b4 b5 b6;cases bb with
       | true =>
        have G:=L.out;rw[h.out (by rw[q,F];simp)]at G;simp only[DY]at G;obtain⟨rfl,rfl⟩:=G;clear q F h c;go_wp2;go_ret2;exact⟨rfl,kq.out.ab⟩
       | false =>
        have h8:=U (c.out J);clear q F h c;exact ZE
      ·have c5:(C==b)=false:=by simp[F]
       have h8:=U (c.out (by simp[F]));have kq:=ad;clear q F h c;exact ZE
     ·have c4:(A==a)=false:=by simp[q]
      have h8:=U (c.out (by simp[q]));have kq:=ad;clear q h c;exact ZE
    ·have dk:((m:Int)==2)=false:=by simp;omega
     have h8:=U (c.out (by
      have:y≠[a,b]:=λe=>by have:=cq.out;rw[e]at this;simp at this;omega
      simp[this]))
     have kq:=ad;clear h c;exact ZE
   ·obtain rfl:k=n:=by omega
    have G:=L.out;have cd:=b7.out;rw[AO (BW ci.out)]at cd;rw[Ars cd]at G;simp only[DY]at G;obtain⟨rfl,rfl⟩:=G;have c6:Hid (Below w.heap.size w wr):=a9.out.ab;clear cd a9;go_wp2;go_ret2;exact⟨rfl,c6.out⟩
theorem CJ.aI{T:Y}{d O:List Int}{k:Nat}{k9 c:Int}(h:CJ T d k k9 O)(b:k<d.length)(e:d.getD k 0=c)(m:AA c=true)(q:DF T O k9 c=none):∃A,CJ T d (k+1) A (O++[c]):=by
 by_cases s:Ao T c=0
 ·exact⟨_,h.zero b e m q s⟩
 ·exact⟨_,h.mark b e m q s⟩
def Lc(T:Y)(O:List Int)(j:Int):Prop:=∀i:Nat,j<i->i<O.length->Ao T (O.getD i 0)≠0
theorem Lc.start(T:Y)(b:List Int):Lc T b ((b.length:Int)-1):=λi c e=>O
theorem Lc.down{T:Y}{b:List Int}{a:Nat}(h:Lc T b (a:Int))(c:Ao T (b.getD a 0)≠0):Lc T b ((a:Int)-1):=by
 intro i m k;by_cases e:i=a
 ·rw[e];exact c
 ·exact h i O k
def AfU(x:TV)(T:Y)(p:Option Addr)(cap:Nat)(ao:List Int)(E:Int)(L:List Int)(w:World)(dS:Ah w x T)(dT:Du x)(dU:Aq w p ao)(dV:ao.length<=17592186043904)(cg:Hid (Bu T ao=E))(dW:Hid (BU T ao=L)):Calls prog 56 #[x.agg,.slice p ao.length cap] w (M0 L E w):=by
 obtain⟨D,cC⟩:∃D,Hid (FQ T ao=D):=⟨_,rfl⟩
 have a9:=Lib.hid (Am.new dS)
 have ea:=Lib.hid dU
 have df:=λW (a':Ah W x T) ci=>Asy x T p cap ao E D W a' dT ci dV cg cC
 obtain⟨n,dX⟩:∃n,ao.length=n:=⟨_,rfl⟩
 rw[dX]at dV df|-
 have dY:=Lib.hid df
 clear dS dU dT dX df
 simp only[TV.agg]
 go_enter func56,ntmps56
 obtain⟨⟨eb,ec,ed,ee,ef,eg⟩,⟨eh,ei,ej,ek,el,em⟩⟩:=a9.out.box.load
 go_wp2_with fail
 refine(dY.out _ a9.out.tab (ea.out.below a9.out.ab)).mono ?_
 rintro e w1 ⟨eM,rfl,dZ,ba⟩
 obtain⟨eN,eO,rfl,d0⟩:=dZ.ap
 replace a9:=Lib.hid (a9.out.step ba)
 have en:=Lib.hid d0
 obtain⟨m,cD⟩:∃m,D.length=m:=⟨_,rfl⟩
 have eP:m<=4096:=by rw[<-cD,<-cC.out];exact Xi T ao
 rw[cD]
 have cd:=Lib.hid cD
 clear dZ ba d0 cD dY eb ec ed ee ef eg eh ei ej ek el em
 by_cases cF:E=0
 ·subst cF
  have dj:Hid (Av T=0):=QH cg.out
  have eo:Hid (Jq T D=L):=by unfold Hid;rw[<-dW.out,OJ cg.out,cC.out]
  have ep:Hid (∀y∈D,Dg T y):=by have:=Xj cg.out;rwa[cC.out]at this
  have eQ:=Lib.hid (Oq dj.out)
  go_wp2
  go_loopw[8,26] (λu i wr=>∃(k:Nat) (k9:Int) (O:List Int),(k<=m/\i=.int .i64 k/\Hid (CJ T D k k9 O)/\Hid (Ak wr w1.heap.size u O)/\Hid (Below w1.heap.size w1 wr))/\True) (λ_ i _=>m-(intOf i).toNat)
  case atStart=>
   exact⟨0,-1,[],⟨Nat.zero_le _,rfl,CJ.start T D,Ak.nil _ _,Below.refl _ _⟩,trivial⟩
  case round=>
   obtain⟨k,k9,O,⟨dk,rfl,bb,b5,cj⟩,_⟩:=hrel
   have dm:=Lib.hid (a9.out.step cj.out)
   by_cases cl:k<m
   ·have d1:k<D.length:=by rw[cd.out];exact cl
    obtain⟨b,ff,rfl,dn⟩:=(en.out.below cj.out) k d1
    obtain⟨c,cI⟩:∃c,D.getD k 0=c:=⟨_,rfl⟩
    rw[cI]at dn
    have cO:Hid (Dg T c):=ep.out c (by rw[<-cI];simp[d1])
    have c2:=Lib.hid cI
    obtain⟨z,dq⟩:∃z,Hid (Ao T c=z):=⟨_,rfl⟩
    obtain⟨c3,bl,rfl,ds⟩:=b5.out.ap
    obtain⟨no,c4⟩:∃no,O.length=no:=⟨_,rfl⟩
    rw[c4]at b5|-
    have eR:no<=4096:=by have:=bb.out.len;omega
    have F:=Lib.hid c4
    have eq:Hid (Lc T O ((no:Int)-1)):=by have:=Lc.start T O;rwa[c4]at this
    generalize er:wr=eS at b5 cj dm dn|-
    clear cI c4 ds er
    go_wp2
    go_loopw[11] (λj wr=>∃bc:Int,j=.int .i64 bc/\-1<=bc/\bc<no/\Hid (Lc T O bc)/\Hid (Ak wr w1.heap.size (.slice c3 no bl) O)/\Hid (Below w1.heap.size w1 wr)) (λj _=>(intOf j+1).toNat)
    case atStart=>exact⟨(no:Int)-1,by go_num,by omega,by omega,eq,b5,cj⟩
    case round=>
     obtain⟨bc,rfl,es,et,c5,cm,b6⟩:=hrel
     have dx:=Lib.hid (a9.out.step b6.out)
     clear b5 cj dm dn
     by_cases d2:bc<0
     ·obtain rfl:bc = -1:=by omega
      obtain rfl:k9 = -1:=(bb.out.last (.inl rfl) (by intro i a' ci;exact c5.out i a' ci)).symm
      have b7:Hid (DF T O (-1) c=none):=AfD (by omega)
      clear d2 es et
      go_upto_region 9 with(fail)
      go_quiet (fail)
      generalize co:World.drewN wr _=ac
      have bd:Below wr.heap.size wr ac:=by rw[<-co];exact V5 _ _
      have cp:=Lib.hid (cm.out.below bd)
      have bs:=Lib.hid (b6.out.trans (bd.mono b6.out.size))
      clear co bd
      go_upto_region 11 with(fail)
      go_quiet (fail)
      generalize co:World.drewN ac _=W
      have bd:Below ac.heap.size ac W:=by rw[<-co];exact V5 _ _
      have bt:=Lib.hid (cp.out.below bd)
      have C:=Lib.hid (bs.out.trans (bd.mono bs.out.size))
      clear co bd cp bs cm b6 dx
      obtain⟨d3,bv⟩:=bb.out.aI (by rw[cd.out];exact cl) c2.out cO.out.1 b7.out
      have b8:=Lib.hid bv
      have cq:=Lib.hid (CQ W #[.int .i64 c] [c] 3 rfl)
      have bx:Hid (Ak (W.alloc (.cells #[.int .i64 c] 3)) w1.heap.size (.slice c3 no bl) O):=bt.out.alloc _
      have b0:w1.heap.size<=(W.alloc (.cells #[.int .i64 c] 3)).heap.size:=by have:=C.out.size;simp;omega
      have cr:=Lib.hid (C.out.alloc C.out.size (.cells #[.int .i64 c] 3))
      clear bv
      go_wp2_with (at_builtin;(refine De _ _ rfl rfl w1.heap.size (.slice c3 no bl) O rfl bx.out (some ⟨W.heap.size,0,none⟩) 1 1 [c] rfl rfl cq.out (by rw[F.out];simp;omega) b0 ?_);intro v4 ce b1 b2)
      have b9:Hid (Below w1.heap.size w1 ce):=L9 cr.out bx.out (Nat.le_refl _) b2
      have cs:=Lib.hid b1
      clear b1 b2 b0
      go_wp2
      go_roundw
      case rel=>
       repeat apply Exists.intro
       exact⟨⟨by omega,by go_num,b8,cs,b9⟩,trivial⟩
      case measure=>simp[intOf];omega
     ·obtain⟨a,rfl⟩:∃a:Nat,bc=a:=⟨bc.toNat,by omega⟩
      have c6:a<no:=by omega
      have eT:decide ((0:Int)<=(a:Int))=true:=decide_eq_true (by omega)
      obtain⟨go,eU,d4,eV,eW,dy,_⟩:=cm.out.row (by rw[F.out];omega)
      rw[F.out]at d4
      injection d4 with eu _ ev
      subst eu ev
      obtain⟨ad,dz⟩:∃s,O.getD a 0=s:=⟨_,rfl⟩
      have ct:=dy a (by rw[F.out];exact c6)
      rw[dz]at ct
      have dE:=Lib.hid dy
      obtain⟨cu,dF⟩:∃z,Hid (Ao T ad=z):=⟨_,rfl⟩
      have cv:=Lib.hid dz
      clear dz dy d2
      go_upto_region 9 with(fail)
      go_cut[43] (λv cx=>v=.bool (cu !=0)/\Hid (Below wr.heap.size wr cx))
      case first=>
       have b3:=dx.out.step (Bx wr)
       have G:=Lib.hid b3
       clear b3
       go_region_held3 (λw'=>w'.cell? ⟨go,a,none⟩=some (.int .i64 ad)/\J_ w.heap.size x w')
        (first
         | exact⟨ct,G.out.box.flat⟩
         | exact⟨(A.cell (p:=⟨go,a,none⟩) (World.block_lt_of_cell? _ _ ct)).trans ct,(G.out.step A).box.flat⟩)
        (first
         | (go_at_call 91;(with_reducible refine(Kv x T ad cu _ G.out.tab dF).mono ?_);rintro e w3 ⟨rfl,A⟩)
         | fail)
       all_goals
        have cy:=(Bx wr).trans (A.mono (Bx wr).size)
        try (go_wp2_with fail)
        go_meet
        exact⟨rfl,cy⟩
      case rest=>
       obtain⟨rfl,am⟩:=hcut
       generalize wc=ac at am|-
       have cp:=Lib.hid (cm.out.below am.out)
       have bs:=Lib.hid (b6.out.trans (am.out.mono b6.out.size))
       have dG:Hid (∀k,k<O.length->ac.cell? ⟨go,k,none⟩=some (.int .i64 (O.getD k 0))):=λk dk=>(am.out.cell (p:=⟨go,k,none⟩) (World.block_lt_of_cell? _ _ (dE.out k dk))).trans (dE.out k dk)
       clear ct dE am cm b6 dx
       by_cases cf:cu=0
       ·have ew:(cu !=0)=false:=by simp[cf]
        have c7:=bb.out.last (j:=(a:Int)) (.inr ⟨by omega,by rw[F.out];omega,by rw[Int.toNat_natCast,cv.out,dF.out];exact cf⟩) (by intro i a' ci;exact c5.out i a' ci)
        subst c7
        clear cf c5
        obtain⟨q,d5⟩:∃q,no=q+1:=⟨no-1,by omega⟩
        have bd:(no:Int)-1=(q:Int):=by omega
        have ex:IntKind.i64.wrap ((no:Int)-1)=(q:Int):=by rw[IntWalk.i64_in _ (by omega)];omega
        have ey:IntKind.i64.wrap (q:Int)=(q:Int):=IntWalk.i64_in _ (by omega)
        obtain⟨M,cA⟩:∃M,O.drop (a+1)=M:=⟨_,rfl⟩
        have c8:M.length=no-(a+1):=by rw[<-cA,List.length_drop,F.out]
        have eX : Hid (AA ad = true):=bb.out.bk ad (by rw [<- cv.out]; have : a < O.length:=(by rw [F.out]; exact c6);simp[this])
        have dH:Hid (E4 T M c->DF T O (a:Int) c=Db T ad c):=λh=>by
         have:=AfE (T:=T) (O:=O) (k9:=(a:Int)) (c:=c) (by omega) (by rw[Int.toNat_natCast,cA];exact h)
         rw[this,Int.toNat_natCast,cv.out]
        have dJ:Hid (¬E4 T M c->DF T O (a:Int) c=none):=λh=>AfC (by omega) (by rw[Int.toNat_natCast,cA];exact h)
        obtain⟨c9,dK⟩:∃s,O.getD q 0=s:=⟨_,rfl⟩
        obtain⟨c',da⟩:∃z,Hid (Ao T c9=z):=⟨_,rfl⟩
        have db:a<q->M≠[]/\M.getD (M.length-1) 0=c9:=λh=>by
         refine⟨λe=>by rw[e]at c8;simp at c8;omega,?_⟩
         rw[c8,<-cA,<-dK]
         simp only[List.getD_eq_getElem?_getD,List.getElem?_drop]
         congr 2
         omega
        obtain⟨b4,cB⟩:∃b4,Hid (decide (a<q/\z<=c')=b4):=⟨_,rfl⟩
        have dL:Hid (b4=false->E4 T M c):=λh=>by
         have ba:=cB.out
         rw[h,decide_eq_false_iff_not]at ba
         rw[Ut,dq.out]
         by_cases e:a<q
         ·right
          rw[(db e).2,da.out]
          by_cases ez:z<=c'
          ·exact absurd ⟨e,ez⟩ ba
          ·omega
         ·left
          exact List.eq_nil_of_length_eq_zero (by omega)
        have dM:Hid (b4=true->¬E4 T M c):=λh=>by
         have ba:=cB.out
         rw[h,decide_eq_true_eq]at ba
         rw[Ut,dq.out]
         intro e
         rcases e with e|e
         ·exact(db ba.1).1 e
         ·rw[(db ba.1).2,da.out]at e
          omega
        have be:=dG.out q (by rw[F.out];omega)
        rw[dK]at be
        have dN:=Lib.hid (a9.out.step bs.out)
        have eA:(q:Int)<(no:Int):=by omega
        have d6:(a:Int)<(no:Int):=by omega
        have eB:(0:Int)<=(q:Int):=by omega
        have eY:=Lib.hid d5
        clear cA c8 db dK d5
        go_upto_region 11 with(fail)
        go_cut[12] (λv cx=>v=.bool b4/\Hid (Below ac.heap.size ac cx))
        case first=>
         have b3:=dN.out.step (Bx ac)
         have G:=Lib.hid b3
         clear b3
         by_cases dO:a<q
         ·have eC:decide ((a:Int)<(q:Int))=true:=decide_eq_true (by omega)
          have dP:Hid (decide (z<=c')=b4):=by unfold Hid;rw[<-cB.out];simp[dO]
          go_region_held3 (λw'=>w'.cell? ⟨go,q,none⟩=some (.int .i64 c9)/\J_ w.heap.size x w')
           (first
            | exact⟨be,G.out.box.flat⟩
            | exact⟨(A.cell (p:=⟨go,q,none⟩) (World.block_lt_of_cell? _ _ be)).trans be,(G.out.step A).box.flat⟩
            | exact⟨(dQ.cell (p:=⟨go,q,none⟩) (World.block_lt_of_cell? _ _ ((A.cell (p:=⟨go,q,none⟩) (World.block_lt_of_cell? _ _ be)).trans be))).trans ((A.cell (p:=⟨go,q,none⟩) (World.block_lt_of_cell? _ _ be)).trans be),((G.out.step A).step dQ).box.flat⟩)
           (first
            | (go_at_call 91;(with_reducible refine(Kv x T c9 c' _ G.out.tab da).mono ?_);rintro e w3 ⟨rfl,A⟩)
            | (go_at_call 91;(with_reducible refine(Kv x T c z _ (G.out.step A).tab dq).mono ?_);rintro e ce ⟨rfl,dQ⟩)
            | fail)
          all_goals
           have cy:=(Bx ac).trans ((A.trans (dQ.mono A.size)).mono (Bx ac).size)
           try (go_wp2_with fail)
           go_meet
           exact⟨by rw[<-dP.out];rfl,cy⟩
         ·have dP:Hid (b4=false):=by unfold Hid;rw[<-cB.out];simp[dO]
          obtain rfl:a=q:=by omega
          have eC:decide ((a:Int)<(a:Int))=false:=decide_eq_false (by omega)
          have eZ:decide ((a:Int)<0)=false:=decide_eq_false (by omega)
          have e0:¬((a:Int)<0):=by omega
          clear dO c6 d6 eB eA
          go_quiet (fail)
          try (go_wp2_with fail)
          go_meet
          exact⟨by rw[dP.out],V5 ac _⟩
        case rest=>
         obtain⟨rfl,am⟩:=hcut
         generalize wc=W at am|-
         have eD:=Lib.hid (dN.out.step am.out)
         have bt:=Lib.hid (cp.out.below am.out)
         have C:=Lib.hid (bs.out.trans (am.out.mono bs.out.size))
         have b':W.cell? ⟨go,a,none⟩=some (.int .i64 ad):=by
          have a':=dG.out a (by rw[F.out];exact c6)
          rw[cv.out]at a'
          exact(am.out.cell (p:=⟨go,a,none⟩) (World.block_lt_of_cell? _ _ a')).trans a'
         clear bd ex ey be dN dG cB da
         cases b4 with
         | true =>
          have b7:Hid (DF T O (a:Int) c=none):=dJ.out (dM.out rfl)
          clear dL dM dH dJ b'
          obtain⟨d3,bv⟩:=bb.out.aI (by rw[cd.out];exact cl) c2.out cO.out.1 b7.out
          have b8:=Lib.hid bv
          have cq:=Lib.hid (CQ W #[.int .i64 c] [c] 3 rfl)
          have bx:Hid (Ak (W.alloc (.cells #[.int .i64 c] 3)) w1.heap.size (.slice (some ⟨go,0,none⟩) no bl) O):=bt.out.alloc _
          have b0:w1.heap.size<=(W.alloc (.cells #[.int .i64 c] 3)).heap.size:=by have:=C.out.size;simp;omega
          have cr:=Lib.hid (C.out.alloc C.out.size (.cells #[.int .i64 c] 3))
          clear bv
          go_wp2_with (at_builtin;(refine De _ _ rfl rfl w1.heap.size (.slice (some ⟨go,0,none⟩) no bl) O rfl bx.out (some ⟨W.heap.size,0,none⟩) 1 1 [c] rfl rfl cq.out (by rw[F.out];simp;omega) b0 ?_);intro v4 ce b1 b2)
          have b9:Hid (Below w1.heap.size w1 ce):=L9 cr.out bx.out (Nat.le_refl _) b2
          have cs:=Lib.hid b1
          clear b1 b2 b0
          go_wp2
          go_roundw
          case rel=>
           repeat apply Exists.intro
           exact⟨⟨by omega,by go_num,b8,cs,b9⟩,trivial⟩
          case measure=>simp[intOf];omega
         | false =>
          have d7:Hid (DF T O (a:Int) c=Db T ad c):=dH.out (dL.out rfl)
          obtain⟨⟨ca,o⟩,dR⟩:∃y,Hid (IX T ad c=y):=⟨_,rfl⟩
          have d8:=λd9 (h:Ah d9 x T)=>AsO x T ad c ca o d9 h dj.out dR
          have eE:=Lib.hid d8
          clear dL dM dH dJ d8
          go_upto_region 13 with(fail)
          go_cut[13,14] (λu v cx=>u=.int .i64 ca/\v=.bool o/\Hid (Below W.heap.size W cx))
          case first=>
           have b3:=eD.out.step (Bx W)
           have G:=Lib.hid b3
           clear b3
           go_region_held3 (λw'=>w'.cell? ⟨go,a,none⟩=some (.int .i64 ad)/\J_ w.heap.size x w')
            (first
             | exact⟨b',G.out.box.flat⟩
             | exact⟨(A.cell (p:=⟨go,a,none⟩) (World.block_lt_of_cell? _ _ b')).trans b',(G.out.step A).box.flat⟩)
            (first
             | (go_at_call 92;(with_reducible refine(eE.out _ G.out.tab).mono ?_);rintro e w3 ⟨rfl,A⟩)
             | fail)
           all_goals
            have cy:=(Bx W).trans (A.mono (Bx W).size)
            try (go_wp2_with fail)
            go_meet
            exact⟨rfl,rfl,cy⟩
          case rest=>
           obtain⟨rfl,rfl,dc⟩:=hcut
           generalize wc=cb at dc|-
           replace bt:=Lib.hid (bt.out.below dc.out)
           replace C:=Lib.hid (C.out.trans (dc.out.mono C.out.size))
           have eF:Hid (cb.cell? ⟨go,a,none⟩=some (.int .i64 ad)):=(dc.out.cell (p:=⟨go,a,none⟩) (World.block_lt_of_cell? _ _ b')).trans b'
           clear b'
           cases o with
           | true =>
            have b7:Hid (DF T O (a:Int) c=some ca):=by unfold Hid;rw[d7.out];exact Aq7 dR.out
            have b8:Hid (CJ T D (k+1) (a:Int) (O.set a ca)):=by
             have:=bb.out.comp dj.out (by rw[cd.out];exact cl) c2.out cO.out b7.out
             rwa[Int.toNat_natCast]at this
            have c7:=bt.out.set F.out a ca
            have eG:=Lib.hid c7
            have b9:Hid (Below w1.heap.size w1 (cb.setCell ⟨go,a,none⟩ (.int .i64 ca))):=C.out.grown (GU cb go a (.int .i64 ca)) C.out.size (λk e=>by injection e with e;omega)
            have e1:=eF.out
            have d6:(a:Int)<(no:Int):=by omega
            obtain⟨e2,e3,cc,_,_,_,d_⟩:=bt.out.row (by rw[F.out];omega)
            injection cc with cc _ _
            injection cc with cc
            injection cc with cc _ _
            subst cc
            have e4:=d_ a
            clear c7 d_
            go_wp2
            go_roundw
            case rel=>
             repeat apply Exists.intro
             exact⟨⟨by omega,by go_num,b8,eG,b9⟩,trivial⟩
            case measure=>simp[intOf];omega
           | false =>
            have b7:Hid (DF T O (a:Int) c=none):=by unfold Hid;rw[d7.out];exact(Aq6 dR.out).1
            obtain⟨d3,bv⟩:=bb.out.aI (by rw[cd.out];exact cl) c2.out cO.out.1 b7.out
            have b8:=Lib.hid bv
            have cq:=Lib.hid (CQ cb #[.int .i64 c] [c] 3 rfl)
            have bx:Hid (Ak (cb.alloc (.cells #[.int .i64 c] 3)) w1.heap.size (.slice (some ⟨go,0,none⟩) no bl) O):=bt.out.alloc _
            have b0:w1.heap.size<=(cb.alloc (.cells #[.int .i64 c] 3)).heap.size:=by have:=C.out.size;simp;omega
            have cr:=Lib.hid (C.out.alloc C.out.size (.cells #[.int .i64 c] 3))
            clear bv
            go_wp2_with (at_builtin;(refine De _ _ rfl rfl w1.heap.size (.slice (some ⟨go,0,none⟩) no bl) O rfl bx.out (some ⟨cb.heap.size,0,none⟩) 1 1 [c] rfl rfl cq.out (by rw[F.out];simp;omega) b0 ?_);intro v4 ce b1 b2)
            have b9:Hid (Below w1.heap.size w1 ce):=L9 cr.out bx.out (Nat.le_refl _) b2
            have cs:=Lib.hid b1
            clear b1 b2 b0
            go_wp2
            go_roundw
            case rel=>
             repeat apply Exists.intro
             exact⟨⟨by omega,by go_num,b8,cs,b9⟩,trivial⟩
            case measure=>simp[intOf];omega
       ·have ew:(cu !=0)=true:=by simp[cf]
        have eH:Hid (Lc T O ((a:Int)-1)):=c5.out.down (by rw[cv.out,dF.out];exact cf)
        clear cf
        go_wp2
        go_roundw
        case rel=>exact⟨(a:Int)-1,by go_num,by omega,by omega,eH,cp,bs⟩
        case measure=>simp[intOf]
   ·obtain rfl:k=m:=by omega
    have eI:Hid (O=L):=by
     have:=bb.out
     rw[<-cd.out]at this
     unfold Hid
     rw[<-eo.out];exact this.done.symm
    have eJ:Hid (Below w.heap.size w wr):=dm.out.ab
    have eK:Hid (w.heap.size<=w1.heap.size):=a9.out.ab.size
    obtain⟨c3,bl,rfl,ds⟩:=b5.out.ap
    have d':=Lib.hid (b5.out.mono eK.out)
    clear ds
    rw[eI.out]at d'|-
    go_wp2
    go_ret2
    exact⟨_,rfl,d'.out,eJ.out⟩
 ·have e5:(E !=0)=true:=by simp[cF]
  have eL:Hid (L=[]):=by unfold Hid;rw[<-dW.out];exact Xf (by rw[cg.out];exact cF)
  clear cF
  go_wp2
  go_ret2
  rw[eL.out]
  exact⟨_,rfl,Ak.nil _ _,a9.out.ab⟩
end Go.Proofs.YtblcoicaeeiojaaGreatDoor
