/- The references of order: -/
import Derived.Test.YtblcoicaeeiojaaGreatDoorSOdPmCmpC
set_option linter.all false
set_option maxHeartbeats 16000000
set_option maxRecDepth 100000
open Go.Proofs.Tryz
namespace Go.Proofs.YtblcoicaeeiojaaGreatDoor
open Go.RowKit
def Asc(x:TV)(T:Y)(c:Int)(X:List Int)(w:World)(q:Ah w x T)(m:Av T=0)(eE:Hid (Br T c=X)):Calls prog 131 #[x.agg,.int .i64 c] w (MX X w):=by
 obtain⟨b,fJ⟩:∃b,Hid (BK c=b):=⟨_,rfl⟩;obtain⟨n,s⟩:∃n,b.length=n:=⟨_,rfl⟩;have am:Hid (b≠[]->X=b):=λh=>Axg;have a9:Hid (b=[]->X=F6 T.dec c):=λh=>by rw[<-eE.out];unfold Br;rw[fJ.out,N h]
 have a':Hid (X.length<=18):=by unfold Hid;rw[<-eE.out];exact(Th m c).2
 have ba:Hid (G9 T.dec 257 [c]=some (F6 T.dec c)):=by unfold Hid;rw[Wl (Acm m),N (T0 (CO m).2.2.2.2 c)]
 have bc:=U (V2 m);have k:=U (Am.new q);have bb:=U s;clear q s m eE;simp only[TV.agg];go_enter func131,ntmps131;go_wp2_with fail;refine(Asg c b _ fJ).mono ?_;rintro e w1 ⟨cb,cc,rfl,A,C⟩;rw[bb.out];replace k:=U (k.out.step C);have bd:=U A;clear A C;by_cases be:0<n
 ·have cd:decide ((0:Int)<(n:Int))=true:=At O;have bl:Hid (X=b):=am.out (λe=>Ahv);go_wp2;go_ret;have F:=a'.out;rw[bl.out]at F|-;rw[bb.out]at F;exact⟨_,_,_,rfl,bb.out,O,bd.out,k.out.ab⟩
 ·obtain rfl:n=0:=by omega
  have bs:Hid (b=[]):=Bw bb.out;have bt:Hid (X=F6 T.dec c):=a9.out bs.out;clear be;obtain⟨⟨bv,bx,b0,b1,b2,b3⟩,⟨b4,b5,b6,b7,b8,b9⟩⟩:=k.out.box.load;go_wp2_with fail;refine(T4 x T c _ _ k.out.tab bc.out ba).mono ?_;rintro e w2 ⟨G,_,L⟩;obtain⟨ce,cf,cg,rfl,ac,ci,ad⟩:=G _ rfl;replace k:=U (k.out.step L);have b':=U ac;have ca:=U ad;clear G L ac ad bv bx b0 b1 b2 b3 b4 b5 b6 b7 b8 b9;go_wp2;go_ret;rw[bt.out];exact⟨_,_,_,rfl,b'.out,O,ca.out,k.out.ab⟩
def Asy(x:TV)(T:Y)(p:Option Addr)(cap:Nat)(ao:List Int)(E:Int)(L:List Int)(w:World)(bv:Ah w x T)(b':Du x)(ca:Aq w p ao)(cb:ao.length<=17592186043904)(cr:Hid (Bu T ao=E))(df:Hid (FQ T ao=L)):Calls prog 90 #[x.agg,.slice p ao.length cap] w (M0 L E w):=by
 obtain⟨A,co⟩:∃A,Hid (AB T ao=A):=⟨_,rfl⟩;have ac:=U (Am.new bv);have cB:=U bv;have cc:=U ca;have bx:=λW (b0:Ah W x T) b1=>Afq x T p cap ao A W b0 b' b1 cb co;obtain⟨n,b2⟩:∃n,ao.length=n:=⟨_,rfl⟩;rw[b2]at cb bx|-;have bb:=U b2;have cD:=U bx;clear bv ca b2 b' bx;simp only[TV.agg];go_enter func90,ntmps90;obtain⟨⟨m,q,s,C,F,G⟩,⟨ad,am,a9,a',ba,bd⟩⟩:=ac.out.box.load;go_wp2_with fail;refine(cD.out _ ac.out.tab (cc.out.below ac.out.ab)).mono ?_;rintro e w1 ⟨rfl,cC⟩;have cF:Hid (w.heap.size+1<=w1.heap.size):=UB;replace ac:=U (ac.out.step cC);clear cC m q s C F G ad am a9 a' ba bd;by_cases bl:A=0
 ·subst bl;have dy:n<=4096:=Pv;have b3:Hid (Av T=0):=(CN co.out).1;go_wp2;go_loopw[7,9,18] (λu _ i wr=>∃k:Nat,k<=n/\i=.int .i64 k/\Hid (Ak wr (w.heap.size+1) u (AQ T (ao.take k)))/\Hid (Am w x T wr)/\Hid (w1.heap.size<=wr.heap.size)) (λ_ _ i _=>n-(intOf i).toNat)
  case atStart=>exact⟨0,Au _,rfl,by simpa[Hid,AQ] using Ak.nil _ _,ac,Ac _⟩
  case round=>
   obtain⟨k,dz,rfl,cd,bc,ce⟩:=hrel;by_cases cI:k<n
   ·have cf:k<ao.length:=by rw[bb.out];exact cI
    obtain⟨b,ff,rfl,cg⟩:=(cc.out.below bc.out.ab) k cf;obtain⟨c,ci⟩:∃c,ao.getD k 0=c:=⟨_,rfl⟩;have bs:=VA T ao k cf;have cj:=(Aj2 b3.out (ao.take k)).2;rw[ci]at cg bs;obtain⟨X,b4⟩:∃X,Hid (Br T c=X):=⟨_,rfl⟩;rw[b4.out]at bs;have cO:=U bs;have c2:Hid ((AQ T (ao.take k)).length+X.length<=17592186043904):=by
     unfold Hid;have:=(Th b3.out c).2;rw[b4.out]at this;rw[GL]at cj;omega
    clear ci bs cj;obtain⟨⟨m,q,s,C,F,G⟩,⟨ad,am,a9,a',ba,bd⟩⟩:=bc.out.box.load;go_wp2_with fail;refine(Asc x T c X _ bc.out.tab b3.out b4).mono ?_;rintro e w2 ⟨c3,c4,c5,rfl,cl,c6,cm,be⟩;have c7:=U (bc.out.step be);have cp:=U (cd.out.below be);have c8:=U be.size;have cq:w.heap.size+1<=w2.heap.size:=Af cF.out (Af ce.out be.size);have c9:=U cl;have c':=U cm;clear be cl c6 cm cg m q s C F G ad am a9 a' ba bd;go_wp2_with (at_builtin;(refine De (.tmp 22) (.tmp 25) rfl rfl (w.heap.size+1) u7 (AQ T (ao.take k)) rfl cp.out c3 c4 c5 X c9.out rfl c'.out c2.out cq ?_);intro da w3 cs b5);have b6:Hid (Ak w3 (w.heap.size+1) da (AQ T (ao.take (k+1)))):=by unfold Hid;rw[cO.out];exact cs
    have db:Hid (Am w x T w3):=c7.out.aI cB.out cp.out b5;have dc:Hid (w1.heap.size<=w3.heap.size):=Af ce.out (Af c8.out b5.size);clear cs b5 cq;go_wp2;go_roundw
    case rel=>exact⟨k+1,O,An,b6,db,dc⟩
    case measure=>simp[intOf];omega
   ·obtain rfl:k=n:=by omega
    have b7:=cd.out;rw[AO (BW bb.out)]at b7;obtain⟨dj,dk,ct,cu⟩:=b7.ap;have dm:=U cu;obtain⟨h,b8⟩:∃h,(AQ T ao).length=h:=⟨_,rfl⟩;have b9:=λW (b0:Ah W x T) b1 (dn:(AQ T ao).length<=4096)=>AsA x T dj dk (AQ T ao) (Bh (Ao T) (AQ T ao)) W b0 b1 dn rfl;rw[b8]at ct b9;subst ct;have dq:=U b9;have cv:=U b8;clear b7 cu b8 b9;by_cases bt:4096<h
    ·have ds:decide ((4096:Int)<(h:Int))=true:=At O;have i7:Bu T ao=7:=Ael co.out (by rw[cv.out];exact bt);have ek:Hid (E=7):=AhE;have fx:Hid (L=[]):=AwK;clear bt i7;exact Av2
    ·have ds:decide ((4096:Int)<(h:Int))=false:=Ai O;have dE:¬(4096<h):=bt;have cx:h<=4096:=O;have i7:Bu T ao=0:=TH co.out (by rw[cv.out];exact cx);have ek:Hid (E=0):=AhE;have fx:Hid (L=Bh (Ao T) (AQ T ao)):=by unfold Hid;rw[<-df.out];exact Ly i7
     clear bt i7;obtain⟨⟨m,q,s,C,F,G⟩,⟨ad,am,a9,a',ba,bd⟩⟩:=bc.out.box.load;go_wp2_with fail;refine(dq.out _ bc.out.tab dm.out cx).mono ?_;rintro e w3 ⟨dF,rfl,cy,cA⟩;have b6:=U (cy.mono bc.out.ab.size);have dx:=U (bc.out.step cA).ab;clear cy cA m q s C F G ad am a9 a' ba bd;go_wp2;go_ret2;rw[ek.out,fx.out];exact⟨_,rfl,b6.out,dx.out⟩
 ·have dG:(A !=0)=true:=by simp[bl]
  have ek:Hid (E=A):=Azn;have fx:Hid (L=[]):=Ay6;clear bl;exact AiU
def ArX(x: TV)(T: Y)(f: Int)(B: Bool)(w: World)(c: Ah w x T)(b: Av T = 0)(e: Hid (AV T f = B)) :
  Calls prog 89 #[x.agg,.int .i64 f] w (Ar (.bool B) w):=e.out▸XV T (Oq b) (V2 b) 256 x f w (Nb b f) c
def pq(T:Y)(a b:Int)(m:Mp):Bool:=decide (m.2=[a,b])&&AV T m.1
def AmQ{q:Mp->Bool}{l:List Mp}{k:Nat}(b:k<l.length)(h:(l.take k).find? q=none)(c:q (l.getD k Ay)=false):(l.take (k+1)).find? q=none:=by
 rw[KF l k b,Aal,h];simp only[List.find?_cons,c];rfl
def AmR{q:Mp->Bool}{l:List Mp}{k:Nat}(b:k<l.length)(h:(l.take k).find? q=none)(c:q (l.getD k Ay)=true):l.find? q=some (l.getD k Ay):=by
 have e:((l.take (k+1))++l.drop (k+1)).find? q=some (l.getD k Ay):=by
  rw[Aal,KF l k b,Aal,h];simp only[List.find?_cons,c];rfl
 rwa[FG]at e
def Art{T:Y}{a b:Int}{k:Nat}(c:k<T.dec.length)(h:(T.dec.take k).find? (pq T a b)=none):(decide ((T.dec.getD k Ay).2=[a,b])&&AV T (T.dec.getD k Ay).1)=false->(T.dec.take (k+1)).find? (pq T a b)=none:=
 λe=>AmQ c h e
def Aru{T:Y}{a b:Int}{k:Nat}(c:k<T.dec.length)(h:(T.dec.take k).find? (pq T a b)=none):(decide ((T.dec.getD k Ay).2=[a,b])&&AV T (T.dec.getD k Ay).1)=true->IZ T a b=((T.dec.getD k Ay).1,true):=by
 intro e;have:=AmR (q:=pq T a b) c h e;unfold IZ;rw[show (λm:Mp=>decide (m.2=[a,b])&&AV T m.1)=pq T a b from rfl,this]
def Ars{T:Y}{a b:Int}(h:T.dec.find? (pq T a b)=none):IZ T a b=(0,false):=by
 unfold IZ;rw[show (λm:Mp=>decide (m.2=[a,b])&&AV T m.1)=pq T a b from rfl,h]
def AsO(x:TV)(T:Y)(a b p:Int)(o:Bool)(w:World)(bc:Ah w x T)(bd:Av T=0)(ce:Hid (IX T a b=(p,o))):Calls prog 92 #[x.agg,.int .i64 a,.int .i64 b] w (Ar (.tuple #[.int .i64 p,.bool o]) w):=by
 obtain⟨⟨cs,cf⟩,be⟩:∃y,Hid (Fo a b=y):=⟨_,rfl⟩;obtain⟨a0,a1,a2,a3,a4,a5,ct,cu,cv,c7,cx,cy⟩:=x;obtain⟨pm,cA,am,cg,cB⟩:=bc.dec;obtain⟨n,a'⟩:∃n,T.dec.length=n:=⟨_,rfl⟩;rw[a']at am cB;simp only at am;subst am;have c8:n<=256:=by rw[<-a'];exact(Oq bd).len
 have ac:=U (Am.new bc);have cC:=U bd;have ci:=U a';have cD:=U cg;clear bc a' cg bd;simp only[TV.agg];go_enter func92,ntmps92;go_wp2_with fail;refine(Asf a b cs cf _ be).mono ?_;rintro e w1 ⟨rfl,rfl⟩;cases cf with
 | true =>
  have L:=ce.out;rw[Ag0 T be.out]at L;simp only[DY]at L;obtain⟨rfl,rfl⟩:=L;exact I6
 | false =>
  have L:Hid (IZ T a b=(p,o)):=by unfold Hid;rw[<-Ag1 T be.out];exact ce.out
  obtain⟨⟨bl,bs,bt,bv,bx,b0⟩,⟨b1,b2,b3,b4,b5,b6⟩⟩:=ac.out.box;go_wp2;go_loopw[23] (λi wr=>∃k:Nat,k<=n/\i=.int .i64 k/\Hid ((T.dec.take k).find? (pq T a b)=none)/\Hid (Am w ⟨a0,a1,a2,a3,a4,a5,ct,cu,cv,.slice pm n cA,cx,cy⟩ T wr)) (λi _=>n-(intOf i).toNat)
  case atStart=>exact⟨0,Au _,rfl,rfl,ac⟩
  case round=>
   obtain⟨k,c9,rfl,b7,a9⟩:=hrel;clear bl bs bt bv bx b0 b1 b2 b3 b4 b5 b6;by_cases cF:k<n
   ·have b8:k<T.dec.length:=by rw[ci.out];exact cF
    obtain⟨c',ff,v,rfl,cj,b9,cl,cm,rfl,ba,b'⟩:=(cD.out.below a9.out.ab) k b8;have c:=U (Art (T:=T) (a:=a) (b:=b) b8 b7.out);have h:=U (Aru (T:=T) (a:=a) (b:=b) b8 b7.out);obtain⟨⟨f,y⟩,co⟩:∃s,T.dec.getD k Ay=s:=⟨_,rfl⟩;rw[co]at cj b9 ba b' c h;simp only at cj b9 ba b' c h;obtain⟨m,ca⟩:∃m,y.length=m:=⟨_,rfl⟩;have ad:=U (a9.out.step ((Al wr.heap.size wr).alloc (Ac _) (.cells #[.int .i64 f,.slice cl m cm] 73)));have cp:=U (BE.alloc ba (.cells #[.int .i64 f,.slice cl m cm] 73));rw[ca]at b9 b';have cq:=U ca;clear co ba ca a9;by_cases am:m=2
    ·subst am;obtain⟨A,C,rfl⟩:∃A C,y=[A,C]:=by
      match y,cq.out with
      | [A,C],_=>exact⟨A,C,rfl⟩
     obtain⟨da,db,rfl,cI⟩:=cp.out 0 J;obtain⟨dc,df,cb,cO⟩:=cp.out 1 J;injection cb with cb;injection cb with c2 c3;subst c2;subst c3;simp only[DI,CS,E_]at cI cO;obtain⟨bb,cr⟩:∃bb,Hid (AV T f=bb):=⟨_,rfl⟩;simp only[cr.out]at c h;by_cases q:A=a
     ·have c4:(A==a)=true:=by simp[q]
      by_cases F:C=b
      ·have c5:(C==b)=true:=by simp[F]
       obtain⟨⟨bl,bs,bt,bv,bx,b0⟩,⟨b1,b2,b3,b4,b5,b6⟩⟩:=ad.out.box.load;go_wp2_with fail;refine(ArX _ T f bb _ ad.out.tab cC.out cr).mono ?_;rintro e w2 ⟨rfl,cc⟩;have kq:=U (ad.out.step cc);have dj:w2.cell? ⟨wr.heap.size,0,none⟩=some (.int .i64 f):=(cc.cell (p:=⟨wr.heap.size,0,none⟩) J).trans EL;clear cc bl bs bt bv bx b0 b1 b2 b3 b4 b5 b6;cases bb with
       | true =>
        have G:=L.out;rw[h.out (by rw[q,F];simp)]at G;simp only[DY]at G;obtain⟨rfl,rfl⟩:=G;clear q F h c;go_wp2;go_ret2;exact⟨rfl,kq.out.ab⟩
       | false =>
        have h8:=U (c.out J);clear q F h c;exact ZE
      ·have c5:(C==b)=false:=by simp[F]
       have h8:=U (c.out (by simp[F]));have kq:=ad;clear q F h c;exact ZE
     ·have c4:(A==a)=false:=by simp[q]
      have h8:=U (c.out (by simp[q]));have kq:=ad;clear q h c;exact ZE
    ·have dk:((m:Int)==2)=false:=by simp;omega
     have h8:=U (c.out (by
      have:y≠[a,b]:=λe=>by have:=cq.out;rw[e]at this;simp at this;omega
      simp[this]))
     have kq:=ad;clear h c;exact ZE
   ·obtain rfl:k=n:=by omega
    have G:=L.out;have cd:=b7.out;rw[AO (BW ci.out)]at cd;rw[Ars cd]at G;simp only[DY]at G;obtain⟨rfl,rfl⟩:=G;have c6:Hid (Below w.heap.size w wr):=a9.out.ab;clear cd a9;go_wp2;go_ret2;exact⟨rfl,c6.out⟩
theorem CJ.aI{T:Y}{d O:List Int}{k:Nat}{k9 c:Int}(h:CJ T d k k9 O)(b:k<d.length)(e:d.getD k 0=c)(m:AA c=true)(q:DF T O k9 c=none):∃A,CJ T d (k+1) A (O++[c]):=by
 by_cases s:Ao T c=0
 ·exact⟨_,h.zero b e m q s⟩
 ·exact⟨_,h.mark b e m q s⟩
def Lc(T:Y)(O:List Int)(j:Int):Prop:=∀i:Nat,j<i->i<O.length->Ao T (O.getD i 0)≠0
theorem Lc.start(T:Y)(b:List Int):Lc T b ((b.length:Int)-1):=λi c e=>O
theorem Lc.down{T:Y}{b:List Int}{a:Nat}(h:Lc T b (a:Int))(c:Ao T (b.getD a 0)≠0):Lc T b ((a:Int)-1):=by
 intro i m k;by_cases e:i=a
 ·rw[e];exact c
 ·exact h i O k
def AfU(x:TV)(T:Y)(p:Option Addr)(cap:Nat)(ao:List Int)(E:Int)(L:List Int)(w:World)(dG:Ah w x T)(dH:Du x)(dK:Aq w p ao)(dL:ao.length<=17592186043904)(cr:Hid (Bu T ao=E))(df:Hid (BU T ao=L)):Calls prog 56 #[x.agg,.slice p ao.length cap] w (M0 L E w):=by
 obtain⟨D,eo⟩:∃D,Hid (FQ T ao=D):=⟨_,rfl⟩;have ac:=U (Am.new dG);have dY:=U dK;have c4:=λW (a9:Ah W x T) cd=>Asy x T p cap ao E D W a9 dH cd dL cr eo;obtain⟨n,dM⟩:∃n,ao.length=n:=⟨_,rfl⟩;rw[dM]at dL c4|-;have dN:=U c4;clear dG dK dH dM c4;simp only[TV.agg];go_enter func56,ntmps56;obtain⟨⟨dZ,d0,d1,d2,d3,d4⟩,⟨d5,d6,d7,d8,d9,d_⟩⟩:=ac.out.box.load;go_wp2_with fail;refine(dN.out _ ac.out.tab (dY.out.below ac.out.ab)).mono ?_;rintro e w1 ⟨ez,rfl,dO,a'⟩;obtain⟨eA,eB,rfl,dP⟩:=dO.ap;replace ac:=U (ac.out.step a');have d':=U dP;obtain⟨m,cx⟩:∃m,D.length=m:=⟨_,rfl⟩;have eC:m<=4096:=by rw[<-cx,<-eo.out];exact Xi T ao
 rw[cx];have ei:=U cx;clear dO a' dP cx dN dZ d0 d1 d2 d3 d4 d5 d6 d7 d8 d9 d_;by_cases bl:E=0
 ·subst bl;have bv:Hid (Av T=0):=QH cr.out;have fx:Hid (Jq T D=L):=Axd;have ea:Hid (∀y∈D,Dg T y):=by have:=Xj cr.out;rwa[eo.out]at this
  have eD:=U (Oq bv.out);go_wp2;go_loopw[8,26] (λu i wr=>∃(k:Nat) (k9:Int) (A:List Int),(k<=m/\i=.int .i64 k/\Hid (CJ T D k k9 A)/\Hid (Ak wr w1.heap.size u A)/\Hid (Below w1.heap.size w1 wr))/\True) (λ_ i _=>m-(intOf i).toNat)
  case atStart=>
   exact⟨0,-1,[],⟨Au _,rfl,CJ.start T D,Ak.nil _ _,Al _ _⟩,trivial⟩
  case round=>
   obtain⟨k,k9,A,⟨c5,rfl,fD,cm,ce⟩,_⟩:=hrel;have c6:=U (ac.out.step ce.out);by_cases ee:k<m
   ·have dJ:k<D.length:=by rw[ei.out];exact ee
    obtain⟨b,ff,rfl,c7⟩:=(d'.out.below ce.out) k dJ;obtain⟨c,cB⟩:∃c,D.getD k 0=c:=⟨_,rfl⟩;rw[cB]at c7;have iD:Hid (Dg T c):=ea.out c AhO;have cp:=U cB;obtain⟨z,c8⟩:∃z,Hid (Ao T c=z):=⟨_,rfl⟩;obtain⟨jT,hE,rfl,jV⟩:=cm.out.ap;obtain⟨no,cy⟩:∃no,A.length=no:=⟨_,rfl⟩;rw[cy]at cm|-;have eE:no<=4096:=by have:=fD.out.len;omega
    have eV:=U cy;have eb:Hid (Lc T A ((no:Int)-1)):=by have:=Lc.start T A;rwa[cy]at this
    generalize ec:wr=eF at cm ce c6 c7|-;clear cB cy jV ec;go_wp2;go_loopw[11] (λj wr=>∃ba:Int,j=.int .i64 ba/\-1<=ba/\ba<no/\Hid (Lc T A ba)/\Hid (Ak wr w1.heap.size (.slice jT no hE) A)/\Hid (Below w1.heap.size w1 wr)) (λj _=>(intOf j+1).toNat)
    case atStart=>exact⟨(no:Int)-1,An,O,O,eb,cm,ce⟩
    case round=>
     obtain⟨ba,rfl,ed,ef,cA,cf,b5⟩:=hrel;have c9:=U (ac.out.step b5.out);clear cm ce c6 c7;by_cases dQ:ba<0
     ·obtain rfl:ba = -1:=by omega
      obtain rfl:k9 = -1:=(fD.out.last (.inl rfl) (by intro i a9 cd;exact cA.out i a9 cd)).symm;have fS:Hid (DF T A (-1) c=none):=AfD O;clear dQ ed ef;go_upto_region 9 with(fail);go_quiet (fail);generalize fE:World.drewN wr _=G;have bb:Below wr.heap.size wr G:=Rx;have cg:=U (cf.out.below bb);have bd:=U (b5.out.trans (bb.mono b5.out.size));clear fE bb;go_upto_region 11 with(fail);go_quiet (fail);generalize fE:World.drewN G _=W;have bb:Below G.heap.size G W:=Rx;have be:=U (cg.out.below bb);have b1:=U (bd.out.trans (bb.mono bd.out.size));clear fE bb cg bd cf b5 c9;obtain⟨dR,bs⟩:=fD.out.aI Pk cp.out iD.out.1 fS.out;have b6:=U bs;have ci:=U (CQ W #[.int .i64 c] [c] 3 rfl);have bt:Hid (Ak (W.alloc (.cells #[.int .i64 c] 3)) w1.heap.size (.slice jT no hE) A):=be.out.alloc _;have bx:w1.heap.size<=(W.alloc (.cells #[.int .i64 c] 3)).heap.size:=RS;have cj:=U (b1.out.alloc b1.out.size (.cells #[.int .i64 c] 3));clear bs;go_wp2_with (at_builtin;(refine De _ _ rfl rfl w1.heap.size (.slice jT no hE) A rfl bt.out (some ⟨W.heap.size,0,none⟩) 1 1 [c] rfl rfl ci.out Rr bx ?_);intro v4 cb b0 b2);have b7:Hid (Below w1.heap.size w1 cb):=L9 cj.out bt.out (Ac _) b2;have cl:=U b0;clear b0 b2 bx;go_wp2;go_roundw
      case rel=>
       repeat apply Exists.intro
       exact⟨⟨O,An,b6,cl,b7⟩,trivial⟩
      case measure=>simp[intOf];omega
     ·obtain⟨a,rfl⟩:∃a:Nat,ba=a:=⟨ba.toNat,O⟩;have em:a<no:=O;have eG:decide ((0:Int)<=(a:Int))=true:=At O;obtain⟨go,eH,dS,eI,eJ,c',_⟩:=cf.out.row RA;rw[eV.out]at dS;injection dS with eg _ eh;subst eg eh;obtain⟨ad,da⟩:∃s,A.getD a 0=s:=⟨_,rfl⟩;have co:=c' a Ah_;rw[da]at co;have db:=U c';obtain⟨cq,dc⟩:∃z,Hid (Ao T ad=z):=⟨_,rfl⟩;have cs:=U da;clear da c' dQ;go_upto_region 9 with(fail);go_cut[43] (λv ct=>v=.bool (cq !=0)/\Hid (Below wr.heap.size wr ct))
      case first=>
       have b3:=c9.out.step (Bx wr);have F:=U b3;clear b3;go_region_held3 (λw'=>w'.cell? ⟨go,a,none⟩=some (.int .i64 ad)/\J_ w.heap.size x w')
        (first
         | exact⟨co,F.out.box.flat⟩
         | exact⟨(C.cell (p:=⟨go,a,none⟩) (AN _ _ co)).trans co,(F.out.step C).box.flat⟩)
        (first
         | (go_at_call 91;(with_reducible refine(Kv x T ad cq _ F.out.tab dc).mono ?_);rintro e w3 ⟨rfl,C⟩)
         | fail)
       all_goals
        have cu:=(Bx wr).trans (C.mono (Bx wr).size)
        try (go_wp2_with fail)
        go_meet;exact⟨rfl,cu⟩
      case rest=>
       obtain⟨rfl,am⟩:=hcut;generalize wc=G at am|-;have cg:=U (cf.out.below am.out);have bd:=U (b5.out.trans (am.out.mono b5.out.size));have dj:Hid (∀k,k<A.length->G.cell? ⟨go,k,none⟩=some (.int .i64 (A.getD k 0))):=λk c5=>(am.out.cell (p:=⟨go,k,none⟩) (AN _ _ (db.out k c5))).trans (db.out k c5);clear co db am cf b5 c9;by_cases cc:cq=0
       ·have ej:(cq !=0)=false:=by simp[cc]
        have cC:=fD.out.last (j:=(a:Int)) (.inr ⟨O,RA,by rw[Ef,cs.out,dc.out];exact cc⟩) (by intro i a9 cd;exact cA.out i a9 cd);subst cC;clear cc cA;obtain⟨q,dT⟩:∃q,no=q+1:=⟨no-1,O⟩;have bb:(no:Int)-1=(q:Int):=O;have ek:IntKind.i64.wrap ((no:Int)-1)=(q:Int):=H_;have el:IntKind.i64.wrap (q:Int)=(q:Int):=AT _ O;obtain⟨M,dn⟩:∃M,A.drop (a+1)=M:=⟨_,rfl⟩;have cD:M.length=no-(a+1):=by rw[<-dn,GK,eV.out]
        have eK : Hid (AA ad = true):=fD.out.bk ad (by rw [<- cs.out]; have : a < A.length:=(by rw [eV.out]; exact em);simp[this]);have dk:Hid (E4 T M c->DF T A (a:Int) c=Db T ad c):=λh=>by
         have:=AfE (T:=T) (O:=A) (k9:=(a:Int)) (c:=c) O Ze;rw[this,Ef,cs.out]
        have dm:Hid (¬E4 T M c->DF T A (a:Int) c=none):=λh=>AfC O Ze;obtain⟨cF,dq⟩:∃s,A.getD q 0=s:=⟨_,rfl⟩;obtain⟨cI,cO⟩:∃z,Hid (Ao T cF=z):=⟨_,rfl⟩;have c2:a<q->M≠[]/\M.getD (M.length-1) 0=cF:=λh=>by
         refine⟨λe=>by rw[e]at cD;simp at cD;omega,?_⟩;rw[cD,<-dn,<-dq];simp only[Cz,MS];congr 2;omega
        obtain⟨b4,cv⟩:∃b4,Hid (decide (a<q/\z<=cI)=b4):=⟨_,rfl⟩;have ds:Hid (b4=false->E4 T M c):=λh=>by
         have a':=cv.out;rw[h,L3]at a';rw[Ut,c8.out];by_cases e:a<q
         ·right;rw[(c2 e).2,cO.out];by_cases en:z<=cI
          ·exact absurd ⟨e,en⟩ a'
          ·omega
         ·left;exact Bw O
        have dx:Hid (b4=true->¬E4 T M c):=λh=>by
         have a':=cv.out;rw[h,A4]at a';rw[Ut,c8.out];intro e;rcases e with e|e
         ·exact(c2 a'.1).1 e
         ·rw[(c2 a'.1).2,cO.out]at e;omega
        have bc:=dj.out q RA;rw[dq]at bc;have dy:=U (ac.out.step bd.out);have ep:(q:Int)<(no:Int):=O;have dU:(a:Int)<(no:Int):=O;have eq:(0:Int)<=(q:Int):=O;have eL:=U dT;clear dn cD c2 dq dT;go_upto_region 11 with(fail);go_cut[12] (λv ct=>v=.bool b4/\Hid (Below G.heap.size G ct))
        case first=>
         have b3:=dy.out.step (Bx G);have F:=U b3;clear b3;by_cases dz:a<q
         ·have er:decide ((a:Int)<(q:Int))=true:=At O;have dE:Hid (decide (z<=cI)=b4):=by unfold Hid;rw[<-cv.out];simp[dz]
          go_region_held3 (λw'=>w'.cell? ⟨go,q,none⟩=some (.int .i64 cF)/\J_ w.heap.size x w')
           (first
            | exact⟨bc,F.out.box.flat⟩
            | exact⟨(C.cell (p:=⟨go,q,none⟩) (AN _ _ bc)).trans bc,(F.out.step C).box.flat⟩
            | exact⟨(dF.cell (p:=⟨go,q,none⟩) (AN _ _ ((C.cell (p:=⟨go,q,none⟩) (AN _ _ bc)).trans bc))).trans ((C.cell (p:=⟨go,q,none⟩) (AN _ _ bc)).trans bc),((F.out.step C).step dF).box.flat⟩)
           (first
            | (go_at_call 91;(with_reducible refine(Kv x T cF cI _ F.out.tab cO).mono ?_);rintro e w3 ⟨rfl,C⟩)
            | (go_at_call 91;(with_reducible refine(Kv x T c z _ (F.out.step C).tab c8).mono ?_);rintro e cb ⟨rfl,dF⟩)
            | fail)
          all_goals
           have cu:=(Bx G).trans ((C.trans (dF.mono C.size)).mono (Bx G).size)
           try (go_wp2_with fail)
           go_meet;exact⟨by rw[<-dE.out];rfl,cu⟩
         ·have dE:Hid (b4=false):=by unfold Hid;rw[<-cv.out];simp[dz]
          obtain rfl:a=q:=O;have er:decide ((a:Int)<(a:Int))=false:=Ai O;have eM:decide ((a:Int)<0)=false:=Ai O;have eN:¬((a:Int)<0):=O;clear dz em dU eq ep;go_quiet (fail)
          try (go_wp2_with fail)
          go_meet;exact⟨by rw[dE.out],V5 G _⟩
        case rest=>
         obtain⟨rfl,am⟩:=hcut;generalize wc=W at am|-;have es:=U (dy.out.step am.out);have be:=U (cg.out.below am.out);have b1:=U (bd.out.trans (am.out.mono bd.out.size));have b8:W.cell? ⟨go,a,none⟩=some (.int .i64 ad):=by
          have a9:=dj.out a Ah_;rw[cs.out]at a9;exact(am.out.cell (p:=⟨go,a,none⟩) (AN _ _ a9)).trans a9
         clear bb ek el bc dy dj cv cO;cases b4 with
         | true =>
          have fS:Hid (DF T A (a:Int) c=none):=dm.out (dx.out rfl);clear ds dx dk dm b8;obtain⟨dR,bs⟩:=fD.out.aI Pk cp.out iD.out.1 fS.out;have b6:=U bs;have ci:=U (CQ W #[.int .i64 c] [c] 3 rfl);have bt:Hid (Ak (W.alloc (.cells #[.int .i64 c] 3)) w1.heap.size (.slice (some ⟨go,0,none⟩) no hE) A):=be.out.alloc _;have bx:w1.heap.size<=(W.alloc (.cells #[.int .i64 c] 3)).heap.size:=RS;have cj:=U (b1.out.alloc b1.out.size (.cells #[.int .i64 c] 3));clear bs;go_wp2_with (at_builtin;(refine De _ _ rfl rfl w1.heap.size (.slice (some ⟨go,0,none⟩) no hE) A rfl bt.out (some ⟨W.heap.size,0,none⟩) 1 1 [c] rfl rfl ci.out Rr bx ?_);intro v4 cb b0 b2);have b7:Hid (Below w1.heap.size w1 cb):=L9 cj.out bt.out (Ac _) b2;have cl:=U b0;clear b0 b2 bx;go_wp2;go_roundw
          case rel=>
           repeat apply Exists.intro
           exact⟨⟨O,An,b6,cl,b7⟩,trivial⟩
          case measure=>simp[intOf];omega
         | false =>
          have lm:Hid (DF T A (a:Int) c=Db T ad c):=dk.out (ds.out rfl);obtain⟨⟨b9,o⟩,kc⟩:∃y,Hid (IX T ad c=y):=⟨_,rfl⟩;have dV:=λdW (h:Ah dW x T)=>AsO x T ad c b9 o dW h bv.out kc;have et:=U dV;clear ds dx dk dm dV;go_upto_region 13 with(fail);go_cut[13,14] (λu v ct=>u=.int .i64 b9/\v=.bool o/\Hid (Below W.heap.size W ct))
          case first=>
           have b3:=es.out.step (Bx W);have F:=U b3;clear b3;go_region_held3 (λw'=>w'.cell? ⟨go,a,none⟩=some (.int .i64 ad)/\J_ w.heap.size x w')
            (first
             | exact⟨b8,F.out.box.flat⟩
             | exact⟨(C.cell (p:=⟨go,a,none⟩) (AN _ _ b8)).trans b8,(F.out.step C).box.flat⟩)
            (first
             | (go_at_call 92;(with_reducible refine(et.out _ F.out.tab).mono ?_);rintro e w3 ⟨rfl,C⟩)
             | fail)
           all_goals
            have cu:=(Bx W).trans (C.mono (Bx W).size)
            try (go_wp2_with fail)
            go_meet;exact⟨rfl,rfl,cu⟩
          case rest=>
           obtain⟨rfl,rfl,c3⟩:=hcut;generalize wc=b' at c3|-;replace be:=U (be.out.below c3.out);replace b1:=U (b1.out.trans (c3.out.mono b1.out.size));have ew:Hid (b'.cell? ⟨go,a,none⟩=some (.int .i64 ad)):=(c3.out.cell (p:=⟨go,a,none⟩) (AN _ _ b8)).trans b8;clear b8;cases o with
           | true =>
            have fS:Hid (DF T A (a:Int) c=some b9):=Axs;have b6:Hid (CJ T D (k+1) (a:Int) (A.set a b9)):=Ay4;have cC:=be.out.set eV.out a b9;have ex:=U cC;have b7:Hid (Below w1.heap.size w1 (b'.setCell ⟨go,a,none⟩ (.int .i64 b9))):=b1.out.grown (GU b' go a (.int .i64 b9)) b1.out.size (λk e=>by injection e with e;omega);have eO:=ew.out;have dU:(a:Int)<(no:Int):=O;obtain⟨eP,eQ,ca,_,_,_,dX⟩:=be.out.row RA;injection ca with ca _ _;injection ca with ca;injection ca with ca _ _;subst ca;have eR:=dX a;clear cC dX;go_wp2;go_roundw
            case rel=>
             repeat apply Exists.intro
             exact⟨⟨O,An,b6,ex,b7⟩,trivial⟩
            case measure=>simp[intOf];omega
           | false =>
            have fS:Hid (DF T A (a:Int) c=none):=Axe;obtain⟨dR,bs⟩:=fD.out.aI Pk cp.out iD.out.1 fS.out;have b6:=U bs;have ci:=U (CQ b' #[.int .i64 c] [c] 3 rfl);have bt:Hid (Ak (b'.alloc (.cells #[.int .i64 c] 3)) w1.heap.size (.slice (some ⟨go,0,none⟩) no hE) A):=be.out.alloc _;have bx:w1.heap.size<=(b'.alloc (.cells #[.int .i64 c] 3)).heap.size:=RS;have cj:=U (b1.out.alloc b1.out.size (.cells #[.int .i64 c] 3));clear bs;go_wp2_with (at_builtin;(refine De _ _ rfl rfl w1.heap.size (.slice (some ⟨go,0,none⟩) no hE) A rfl bt.out (some ⟨b'.heap.size,0,none⟩) 1 1 [c] rfl rfl ci.out Rr bx ?_);intro v4 cb b0 b2);have b7:Hid (Below w1.heap.size w1 cb):=L9 cj.out bt.out (Ac _) b2;have cl:=U b0;clear b0 b2 bx;go_wp2;go_roundw
            case rel=>
             repeat apply Exists.intro
             exact⟨⟨O,An,b6,cl,b7⟩,trivial⟩
            case measure=>simp[intOf];omega
       ·have ej:(cq !=0)=true:=by simp[cc]
        have ey:Hid (Lc T A ((a:Int)-1)):=cA.out.down (by rw[cs.out,dc.out];exact cc);clear cc;go_wp2;go_roundw
        case rel=>exact⟨(a:Int)-1,An,O,O,ey,cg,bd⟩
        case measure=>simp[intOf]
   ·obtain rfl:k=m:=by omega
    have lk:Hid (A=L):=AvX;have fO:Hid (Below w.heap.size w wr):=c6.out.ab;have ll:Hid (w.heap.size<=w1.heap.size):=ac.out.ab.size;exact Avp
 ·exact AyP
end Go.Proofs.YtblcoicaeeiojaaGreatDoor
