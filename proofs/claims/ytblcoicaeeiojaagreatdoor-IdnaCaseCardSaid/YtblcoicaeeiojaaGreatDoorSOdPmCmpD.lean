/- compose: IsNFC, Quick, P -/
import Derived.Test.YtblcoicaeeiojaaGreatDoorSOdPmDcmR
import Derived.Test.YtblcoicaeeiojaaGreatDoorSOaTblS
import Derived.Test.YtblcoicaeeiojaaGreatDoorSOaPmJoiRB
set_option linter.all false
set_option maxHeartbeats 4000000
set_option maxRecDepth 100000
open Go.Proofs.Tryz
namespace Go.Proofs.YtblcoicaeeiojaaGreatDoor
open Go.RowKit
def Aof{T:Y}{l:List Int}(h:Bu T l≠0):Ir T l=false:=by unfold Ir;rw[Ai h];rfl
def Aog{T:Y}{l:List Int}(h:Bu T l=0):Ir T l=(BU T l==l):=by unfold Ir;rw[At h];rfl
def Aoi(x:TV)(T:Y)(p:Option Addr)(cap:Nat)(ao:List Int)(B:Bool)(w:World)(h:Ah w x T)(k:Bi w)(m:Aq w p ao)(q:ao.length<=17592186043904)(ef:Hid (Ir T ao=B)):Calls prog 161 #[x.agg,.slice p ao.length cap] w (Ar (.bool B) w):=by
 have ac:=U (Am.new h);have s:=U m;have F:=U k;obtain⟨E,cr⟩:∃E,Hid (Bu T ao=E):=⟨_,rfl⟩;obtain⟨L,df⟩:∃L,Hid (BU T ao=L):=⟨_,rfl⟩;have b:=λW (G:Ah W x T) ad am=>Aei x T p cap ao E L W G ad am q cr df;obtain⟨n,c⟩:∃n,ao.length=n:=⟨_,rfl⟩;rw[c]at q b|-;have bb:=U c;have a9:=U b;clear h m c k b;simp only[TV.agg];go_enter func161,ntmps161;obtain⟨⟨a',ba,bc,bd,be,bs⟩,⟨bt,bv,bx,b0,b1,b2⟩⟩:=ac.out.box.load;go_wp2_with fail;refine(a9.out _ ac.out.tab (F.out.below ac.out.ab) (s.out.below ac.out.ab)).mono ?_;rintro e w1 ⟨b3,rfl,A,C⟩;replace ac:=U (ac.out.step C);have b4:=U A;clear C A a' ba bc bd be bs bt bv bx b0 b1 b2;by_cases bl:E=0
 ·subst bl;have b5:Hid ((L==ao)=B):=Axf;have b6:Hid (Bp w1 b3 L):=b4.out.aZ Axt;have b7:Hid (Bp w1 (.slice p n cap) ao):=⟨p,cap,by rw[bb.out],s.out.below ac.out.ab,FD⟩;go_wp2_with fail;refine(Amx _ _ L ao B _ b6.out b7.out b5).mono ?_;exact AAs
 ·exact Avl
def Asj(x:TV)(T:Y)(p:Option Addr)(cap:Nat)(ao:List Int)(B:Bool)(w:World)(h:Ah w x T)(k:Du x)(m:Aq w p ao)(q:ao.length<=17592186043904)(ef:Hid (Ir T ao=B)):Calls prog 94 #[x.agg,.slice p ao.length cap] w (Ar (.bool B) w):=by
 have ac:=U (Am.new h);have s:=U m;obtain⟨E,cr⟩:∃E,Hid (Bu T ao=E):=⟨_,rfl⟩;obtain⟨L,df⟩:∃L,Hid (BU T ao=L):=⟨_,rfl⟩;have b:=λW (F:Ah W x T) G=>AfU x T p cap ao E L W F k G q cr df;obtain⟨n,c⟩:∃n,ao.length=n:=⟨_,rfl⟩;rw[c]at q b|-;have bb:=U c;have ad:=U b;clear h m c k b;simp only[TV.agg];go_enter func94,ntmps94;obtain⟨⟨am,a9,a',ba,bc,bd⟩,⟨be,bs,bt,bv,bx,b0⟩⟩:=ac.out.box.load;go_wp2_with fail;refine(ad.out _ ac.out.tab (s.out.below ac.out.ab)).mono ?_;rintro e w1 ⟨b1,rfl,A,C⟩;replace ac:=U (ac.out.step C);have b2:=U A;clear C A am a9 a' ba bc bd be bs bt bv bx b0;by_cases bl:E=0
 ·subst bl;have b3:Hid ((L==ao)=B):=Axf;have b4:Hid (Bp w1 b1 L):=b2.out.aZ Axt;have b5:Hid (Bp w1 (.slice p n cap) ao):=⟨p,cap,by rw[bb.out],s.out.below ac.out.ab,FD⟩;go_wp2_with fail;refine(As0 _ _ L ao B _ b4.out b5.out b3).mono ?_;exact AAs
 ·exact Avl
def Au4(x:TV)(T:Y)(p:Option Addr)(cap:Nat)(ao:List Int)(E:Int)(w:World)(c:Ah w x T)(h:Bi w)(k:Aq w p ao)(m:ao.length<=17592186043904)(s:Hid (AB T ao=E)):Calls prog 160 #[x.agg,.slice p ao.length cap] w (Ar (.int .i64 E) w):=by
 obtain⟨A,C⟩:∃L,Hid (LF T ao=L):=⟨_,rfl⟩;have b:=λW (F:Ah W x T) G ad=>O3 x T p cap ao E A W F G ad m s C;have dm:=U h;have ac:=U (Am.new c);have dG:=U k;obtain⟨n,q⟩:∃n,ao.length=n:=⟨_,rfl⟩;rw[q]at m b|-;have iL:=U b;clear c k q h b;simp only[TV.agg];go_enter func160,ntmps160;exact UY
def Au3(x:TV)(T:Y)(c:Int)(B:Bool)(w:World)(q:Ah w x T)(s:AH 0 T.ag=true)(A:Hid (FA T c=B)):Calls prog 166 #[x.agg,.int .i64 c] w (Ar (.bool B) w):=by
 have ac:=U (Am.new q);have F:=U s;obtain⟨y,m⟩:∃y,Hid (AM T c=y):=⟨_,rfl⟩;have eT:Hid ((decide (c≠46)&&(decide (y=1)||decide (y=4)))=B):=by unfold Hid;rw[<-A.out];unfold FA;rw[m.out]
 clear q s A;simp only[TV.agg];go_enter func166,ntmps166;obtain⟨⟨G,L,ad,am,a9,a'⟩,⟨ba,bb,bc,bd,be,bl⟩⟩:=ac.out.box.load;go_wp2_with fail;refine(Um x T c y _ ac.out.tab F.out m).mono ?_;rintro e w1 ⟨rfl,C⟩;replace ac:=U (ac.out.step C);clear C;clear G L ad am a9 a' ba bb bc bd be bl;clear m;by_cases b:y=1
 ·subst b;exact AAD
 ·have bs:(y==1)=false:=by simp[b]
  by_cases k:y=4
  ·subst k;exact AAD
  ·have bt:(y==4)=false:=by simp[k]
   obtain rfl:B=false:=by rw[<-eT.out,Ai b,Ai k];simp
   clear eT b k;exact Df
def NI(T:Y)(c:Int):Bool:=!FA T c
def Ap0{T:Y}{l:List Int}:l.any (NI T) = !l.all (FA T):=by rw[List.not_all_eq_any_not];rfl
def AuX(c:Int)(g:Nat)(x:TV)(T:Y)(w:World)(m:AS w g x)(b:Ah w x T)(h:AH 0 T.ag=true):Calls prog 165 #[.int .i64 c,.pointer (some ⟨g,0,none⟩)] w (Ar (.bool (NI T c)) w):=by
 obtain⟨B,k⟩:∃B,Hid (FA T c=B):=⟨_,rfl⟩;have bb:Hid (NI T c = !B):=by unfold Hid NI;rw[k.out]
 have q:=U b;have s:=U h;obtain⟨⟨A,C,F,G,L,ac⟩,⟨ad,am,a9,a',ba,bc⟩⟩:=m;clear b h;go_enter func165,ntmps165;go_wp2_with fail;refine(Au3 x T c B _ q.out s.out k).mono ?_;exact Ay1
def Auu(g:Nat)(x:TV)(T:Y)(w:World)(e:AS w g x)(h:Ah w x T)(k:AH 0 T.ag=true):G3 165 #[.pointer (some ⟨g,0,none⟩)] (NI T) w:=
 λc W b=>AuX c g x T W (e.below b) (h.below b) k
def Amv:∀args w,(callFunc 165 args).run prog w=.ok (.enter 165 args) w:=Proofs.enters_of func165 Ax rfl
def Au0(p:Option Addr)(n cap:Nat)(ao:List Int)(B:Bool)(w:World)(F:Aq w p ao)(bb:Hid (ao.length=n))(bs:n<=17592186043904)(G:Hid (IS ao=B)):Calls prog 162 #[.slice p n cap] w (Ar (.bool B) w):=by
 have s:=U F;have hG:Hid (Uz ao=B):=by unfold Hid;rw[<-AnB];exact G.out
 clear F G;go_enter func162,ntmps162;by_cases L:n=0
 ·subst L;have ac:ao=[]:=Bw bb.out;obtain rfl:B=true:=by rw[<-hG.out,ac];rfl
  clear ac hG;exact Hx
 ·have bt:((n:Int)==0)=false:=by simp;omega
  have bv:(0:Int)<(n:Int):=O;have bx:0<n:=O;obtain⟨a0,ad⟩:∃a,ao.getD 0 0=a:=⟨_,rfl⟩;obtain⟨a1,am⟩:∃a,ao.getD (n-1) 0=a:=⟨_,rfl⟩;obtain⟨a2,a9⟩:∃a,ao.getD 2 0=a:=⟨_,rfl⟩;obtain⟨a3,a'⟩:∃a,ao.getD 3 0=a:=⟨_,rfl⟩;obtain⟨b,ff,e,bd⟩:=s.out 0 FD;subst e;obtain⟨b0,b1,e,ba⟩:=s.out (n-1) FD;injection e with e;injection e with e c _;subst e;subst c;rw[ad,E_]at bd;rw[am]at ba;have eT:Hid ((if 4<=n/\a2=45/\a3=45 then false else(decide (a0≠45)&&decide (a1≠45)))=B):=by
   unfold Hid;rw[<-hG.out];unfold Uz;rw[bb.out,ad,am,a9,a',Ai L,FE]
  obtain⟨m,er⟩:∃m,n-1=m:=⟨_,rfl⟩;rw[er]at ba;have b2:(n:Int)-1=m:=O;have b3:IntKind.i64.wrap (m:Int)=m:=AT _ O;have b4:m<n:=O;have b5:(m:Int)<n:=O;by_cases k:a0=45
  ·subst k;exact Ay5
  ·have b6:(a0==45)=false:=by simp[k]
   by_cases q:a1=45
   ·subst q;exact Ay5
   ·have b7:(a1==45)=false:=by simp[q]
    by_cases b8:n<4
    ·obtain rfl:B=true:=by rw[<-eT.out,V (λh=>O),At k,At q];rfl
     have bc:(n:Int)<4:=O;exact Z3
    ·have bc:¬(n:Int)<4:=by omega
     have b9:decide ((n:Int)<4)=false:=Ai bc;obtain⟨b',ca,e,be⟩:=s.out 2 FD;injection e with e;injection e with e c _;subst e;subst c;obtain⟨cb,cc,e,bl⟩:=s.out 3 FD;injection e with e;injection e with e c _;subst e;subst c;rw[a9]at be;rw[a']at bl;have cd:(2:Int)<n:=O;have ce:(3:Int)<n:=O;have cf:2<n:=O;have cg:3<n:=O;by_cases A:a2=45
     ·subst A;obtain rfl:B=(a3 !=45):=by
       rw[<-eT.out];by_cases h:a3=45
       ·rw[N ⟨O,rfl,h⟩];simp[h]
       ·rw[V (λC=>h C.2.2),At k,At q];simp[h]
      exact Z3
     ·have ci:(a2 !=45)=true:=by simp[A]
      obtain rfl:B=true:=by rw[<-eT.out,V (λC=>A C.2.1),At k,At q];rfl
      exact Z3
def AuW(x:TV)(T:Y)(p:Option Addr)(cap:Nat)(ao:List Int)(k:Int)(w:World)(cp:Ah w x T)(cq:Bi w)(cr:Aq w p ao)(q:ao.length<=17592186043904)(cs:Hid (Cn T ao=k)):Calls prog 107 #[x.agg,.slice p ao.length cap] w (Ar (.int .i64 k) w):=by
 obtain⟨A,bc⟩:∃A,Hid (AB T ao=A):=⟨_,rfl⟩;obtain⟨L,bd⟩:∃L,Hid (Ir T ao=L):=⟨_,rfl⟩;obtain⟨am,ct⟩:∃am,Hid (IS ao=am):=⟨_,rfl⟩;obtain⟨S,be⟩:∃S,Hid (ao.any (NI T)=S):=⟨_,rfl⟩;obtain⟨cA,s,bs⟩:∃K E,Hid (Lj T ao=(K,E)):=⟨_,_,rfl⟩;obtain⟨cB,bt,bx⟩:∃K E,Hid (Ma T ao=(K,E)):=⟨_,_,rfl⟩;have ac:=U (Am.new cp);have a9:=U cq;have C:=U cr;have b0:=λW (a':Ah W x T) F m=>Au4 x T p cap ao A W a' F m q bc;have b1:=λW (a':Ah W x T) F m=>Aoi x T p cap ao L W a' F m q bd;have b2:=λW (a':Ah W x T) F m=>Aol x T p cap ao cA s W a' F m q bs;have b3:=λW (a':Ah W x T) F m=>AkT x T p cap ao cB bt W a' F m q bx;have b4:=λW g (bl:AS W g x) (a':Ah W x T) m cC=>Qh (.slice p ao.length cap) ao 165 #[.pointer (some ⟨g,0,none⟩)] (NI T) S W ⟨p,cap,rfl,m,q⟩ (Auu g x T W bl a' cC) Amv be;have bv:Hid ((if A≠0 then A else if ao=[]then 10 else if L=false then 13 else if am=false then 14 else if Jj T (ao.getD 0 0)=2 then 15 else if S=true then 16 else if s≠0 then s else bt)=k):=by
  unfold Hid;rw[<-cs.out];unfold Cn;rw[bc.out,bd.out,ct.out,bs.out,bx.out,<-be.out,Ap0];cases ao.all (FA T)<;>simp
 obtain⟨n,b5⟩:∃n,ao.length=n:=⟨_,rfl⟩;rw[b5]at q b0 b1 b2 b3 b4|-;have bb:=U b5;have cD:=U b0;have cF:=U b1;have cI:=U b2;have cO:=U b3;have c2:=U b4;clear cp cr b5 cq b0 b1 b2 b3 b4 cs bd bs bx be;simp only[TV.agg];go_enter func107,ntmps107;obtain⟨⟨cf,b8,b',b9,cd,b6⟩,⟨ci,cb,b7,ca,cc,cg⟩⟩:=ac.out.box.load;go_wp2_with fail;refine(cD.out _ ac.out.tab (a9.out.below ac.out.ab) (C.out.below ac.out.ab)).mono ?_;rintro e w1 ⟨rfl,ad⟩;replace ac:=U (ac.out.step ad);clear ad;clear cf b8 b' b9 cd b6 ci cb b7 ca cc cg;by_cases bl:A=0
 ·subst bl;have ce:=Mr (CO (CN bc.out).1).2.1;have c3:Hid (AH 0 T.cat=true):=ce.1;have c4:Hid (AH 0 T.ag=true):=ce.2.2.2.2.2.1;clear ce;replace bv:=bv.out;rw[V J]at bv;by_cases a':n=0
  ·exact AAg
  ·have dz:((n:Int)==0)=false:=by simp;omega
   have cu:ao≠[]:=λh=>a' Ah6;rw[V cu]at bv;have cv:0<ao.length:=FD;replace bv:=U bv;clear cu;obtain⟨⟨cf,b8,b',b9,cd,b6⟩,⟨ci,cb,b7,ca,cc,cg⟩⟩:=ac.out.box.load;go_wp2_with fail;refine(cF.out _ ac.out.tab (a9.out.below ac.out.ab) (C.out.below ac.out.ab)).mono ?_;rintro e w2 ⟨rfl,ad⟩;replace ac:=U (ac.out.step ad);clear ad;clear cf b8 b' b9 cd b6 ci cb b7 ca cc cg;cases L with
   | false =>
    obtain rfl:k=13:=Po;exact Df
   | true =>
    replace bv:=bv.out;rw[V J]at bv;replace bv:=U bv;go_wp2_with fail;refine(Au0 _ n cap ao am _ (C.out.below ac.out.ab) bb q ct).mono ?_;rintro e w3 ⟨rfl,ad⟩;replace ac:=U (ac.out.step ad);clear ad;cases am with
    | false =>
     obtain rfl:k=14:=Po;exact Df
    | true =>
     replace bv:=bv.out;rw[V J]at bv;obtain⟨z,cj⟩:∃z,Hid (Jj T (ao.getD 0 0)=z):=⟨_,rfl⟩;rw[cj.out]at bv;replace bv:=U bv;go_upto_region 10 with(fail);obtain⟨b,ff,rfl,cl⟩:=(C.out.below ac.out.ab) 0 cv;obtain⟨c,cm⟩:∃c,ao.getD 0 0=c:=⟨_,rfl⟩;rw[cm,E_]at cl;rw[cm]at cj;have dE:(0:Int)<(n:Int):=O;have dF:0<n:=O;have c5:=λp=>Aj cl p;have co:=λp=>Dm (p:=p) λcx c6=>AkS x T c z cx (ac.out.tab.below c6) c3.out cj;simp only[TV.agg]at co;have cy:=U co;clear co cm cl cv;obtain⟨⟨cf,b8,b',b9,cd,b6⟩,⟨ci,cb,b7,ca,cc,cg⟩⟩:=ac.out.box.load;have c7:=λp=>Aj cf p;have c8:=λp=>Aj b8 p;have c9:=λp=>Aj b' p;have c':=λp=>Aj b9 p;have da:=λp=>Aj cd p;have db:=λp=>Aj b6 p;have dc:=λp=>Aj ci p;have df:=λp=>Aj cb p;have dj:=λp=>Aj b7 p;have dk:=λp=>Aj ca p;have dm:=λp=>Aj cc p;have dn:=λp=>Aj cg p;clear cf b8 b' b9 cd b6 ci cb b7 ca cc cg;refine DG Ax Ax ?_
     repeat (go_big_quiet_step ((go_at_call 163;with_reducible exact cy.out _)))
     refine wpQuiet_nil ?_;intro _ dq;obtain⟨pq,ds⟩:=dq;subst ds;replace ac:=U (ac.out.step (Dx w3 pq));generalize Cf w3 pq=cx at ac|-;clear c7 c8 c9 c' da db dc df dj dk dm dn c5 cy;by_cases ba:z=2
     ·subst ba;obtain rfl:k=15:=Po;exact Df
     ·have dx:(z==2)=false:=by simp[ba]
      replace bv:=bv.out;rw[V ba]at bv;replace bv:=U bv;clear ba;rw[dx];obtain⟨⟨cf,b8,b',b9,cd,b6⟩,⟨ci,cb,b7,ca,cc,cg⟩⟩:=ac.out.box.load;go_wp2_with fail;refine(c2.out _ _ ac.out.box ac.out.tab (C.out.below ac.out.ab) c4.out).mono ?_;rintro e dG ⟨rfl,ad⟩;replace ac:=U (ac.out.step ad);clear ad;clear cf b8 b' b9 cd b6 ci cb b7 ca cc cg;cases S with
      | true =>
       obtain rfl:k=16:=Po;exact Df
      | false =>
       replace bv:=bv.out;rw[V J]at bv;replace bv:=U bv;obtain⟨⟨cf,b8,b',b9,cd,b6⟩,⟨ci,cb,b7,ca,cc,cg⟩⟩:=ac.out.box.load;go_wp2_with fail;refine(cI.out _ ac.out.tab (a9.out.below ac.out.ab) (C.out.below ac.out.ab)).mono ?_;rintro e w6 ⟨rfl,ad⟩;replace ac:=U (ac.out.step ad);clear ad;clear cf b8 b' b9 cd b6 ci cb b7 ca cc cg;by_cases G:s=0
       ·have dy:(s !=0)=false:=by simp[G]
        obtain rfl:k=bt:=by rw[<-bv.out,V (by rw[G];simp)]
        clear G;obtain⟨⟨cf,b8,b',b9,cd,b6⟩,⟨ci,cb,b7,ca,cc,cg⟩⟩:=ac.out.box.load;go_wp2_with fail;refine(cO.out _ ac.out.tab (a9.out.below ac.out.ab) (C.out.below ac.out.ab)).mono ?_;rintro e dH ⟨rfl,ad⟩;exact Aja
       ·have dy:(s !=0)=true:=by simp[G]
        obtain rfl:k=s:=by rw[<-bv.out,N G]
        clear G;exact Df
 ·have dJ:(A !=0)=true:=by simp[bl]
  obtain rfl:k=A:=by rw[<-bv.out,N bl]
  exact U3
def ArO{T:Y}(h:r2 T=true):BA T.aj=true:=by
 simp only[r2,BF,DQ,Gf,AJ]at h;exact h.1.2.2.2.2.1
def OY(p:Option Addr)(n cap:Nat)(ao:List Int)(i V:Int)(w:World)(c:Aq w p ao)(bb:Hid (ao.length=n))(ex:Hid (BJ ao i=V)):Calls prog 136 #[.slice p n cap,.int .i64 i] w (Ar (.int .i64 V) w):=by
 have A:=U c;clear c;go_enter func136,ntmps136;by_cases e:i<0
 ·have C:decide (i<0)=true:=At e;obtain rfl:V = -1:=AzE;clear ex;exact Hx
 ·have C:decide (i<0)=false:=Ai e;by_cases k:(n:Int)<=i
  ·have F:decide ((n:Int)<=i)=true:=At k;obtain rfl:V = -1:=AzF;clear ex;exact Hx
  ·have F:decide ((n:Int)<=i)=false:=Ai k;obtain⟨m,rfl⟩:∃m:Nat,i=m:=⟨i.toNat,O⟩;have q:m<ao.length:=FD;obtain⟨b,ff,rfl,G⟩:=A.out m q;have s:ao.getD m 0=V:=by rw[<-ex.out,L8 q]
   rw[s]at G;have L:(0:Int)<=(m:Int):=O;have ac:(m:Int)<(n:Int):=O;clear ex s;exact Hx
def Af2(k8 dI:Int)(q:Int->Bool)(L:∀c,(decide (k8<=c)&&decide (c<=dI))=q c)(p:Option Addr)(n cap:Nat)(ao:List Int)(B:Bool)(w:World)(ac:Aq w p ao)(bb:Hid (ao.length=n))(bl:n<=17592186043904)(ad:Hid (ao.any q=B)):Calls prog 193 #[.slice p n cap,.int .i64 k8,.int .i64 dI] w (Ar (.bool B) w):=by
 have ba:=U ac;have bc:=U L;clear L;clear ac;go_enter func193,ntmps193;go_wp2;go_loopw[11] (λi wr=>∃k:Nat,k<=n/\i=.int .i64 k/\Hid ((ao.take k).any q=false)/\Hid (Below w.heap.size w wr)) (λi _=>n-(intOf i).toNat)
 case atStart=>exact⟨0,Au _,rfl,rfl,U (Al _ _)⟩
 case round=>
  obtain⟨k,bs,rfl,F,m⟩:=hrel;by_cases bd:k<n
  ·have A:k<ao.length:=by rw[bb.out];exact bd
   obtain⟨b,ff,rfl,am⟩:=(ba.out.below m.out) k A;obtain⟨c,C⟩:∃c,ao.getD k 0=c:=⟨_,rfl⟩;rw[C]at am;obtain⟨s,G⟩:∃s,Hid (q c=s):=⟨_,rfl⟩;have be:Hid ((ao.take (k+1)).any q=s):=by unfold Hid;rw[P8 q ao k A,F.out,C,G.out,FE]
   have a9:Hid (s=true->B=true):=λh=>by rw[<-ad.out];exact Aa2 A (by rw[C,G.out];exact h)
   clear C A F;go_wp2_with fail;refine(XZ c k8 dI s _ (by unfold Hid;rw[bc.out c];exact G.out)).mono ?_;rintro e w2 ⟨rfl,a'⟩;replace m:=U (m.out.trans (a'.mono m.out.size));clear a' am;cases s with
   | true =>
    obtain rfl:B=true:=a9.out rfl;go_wp2;go_ret;exact⟨rfl,m.out⟩
   | false =>
    clear a9;go_wp2;go_roundw
    case rel=>exact⟨k+1,O,An,be,m⟩
    case measure=>first|(simp[intOf];done)|(simp[intOf];omega)
  ·obtain rfl:k=n:=by omega
   obtain rfl:B=false:=by rw[<-ad.out,<-F.out,AO ME]
   go_wp2;go_ret;exact⟨rfl,m.out⟩
def Asq(x:TV)(T:Y)(p:Option Addr)(n cap:Nat)(ao:List Int)(B:Bool)(w:World)(G:Ah w x T)(m:BA T.aj=true)(L:Aq w p ao)(bb:Hid (ao.length=n))(b9:n<=17592186043904)(ac:Hid (ao.any (DN T)=B)):Calls prog 191 #[x.agg,.slice p n cap] w (Ar (.bool B) w):=by
 have a':=U (Am.new G);have ba:=U L;have bd:=U m;clear G L m;simp only[TV.agg];go_enter func191,ntmps191;go_wp2;go_loopw[10] (λi wr=>∃k:Nat,k<=n/\i=.int .i64 k/\Hid ((ao.take k).any (DN T)=false)/\Hid (Am w x T wr)) (λi _=>n-(intOf i).toNat)
 case atStart=>exact⟨0,Au _,rfl,rfl,a'⟩
 case round=>
  obtain⟨k,b',rfl,m,bc⟩:=hrel;by_cases be:k<n
  ·have q:k<ao.length:=by rw[bb.out];exact be
   obtain⟨b,ff,rfl,ad⟩:=(ba.out.below bc.out.ab) k q;obtain⟨c,s⟩:∃c,ao.getD k 0=c:=⟨_,rfl⟩;rw[s]at ad;obtain⟨z,am⟩:∃z,Hid (Ep T c=z):=⟨_,rfl⟩;have mg:Hid (DN T c=(decide (z=7)||decide (z=8)||decide (z=6))):=by unfold Hid DN;rw[am.out]
   have bl:Hid ((ao.take (k+1)).any (DN T)=DN T c):=by unfold Hid;rw[P8 (DN T) ao k q,m.out,s,FE]
   have mf:Hid (DN T c=true->B=true):=λh=>by rw[<-ac.out];exact Aa2 q (by rw[s];exact h)
   clear s q m;obtain⟨⟨bs,bt,bv,bx,b0,b1⟩,⟨b2,b3,b4,b5,b6,b7⟩⟩:=bc.out.box.load;go_wp2_with fail;refine(Af1 x T c z _ bc.out.tab bd.out am).mono ?_;rintro e w2 ⟨rfl,a9⟩;replace bc:=U (bc.out.step a9);clear a9 ad;clear bs bt bv bx b0 b1 b2 b3 b4 b5 b6 b7;by_cases A:z=7
   ·subst A;exact Ajj
   ·have ca:(z==7)=false:=by simp[A]
    by_cases C:z=8
    ·subst C;exact Ajj
    ·have cb:(z==8)=false:=by simp[C]
     by_cases F:z=6
     ·subst F;exact Ajj
     ·have cc:(z==6)=false:=by simp[F]
      have b8:Hid ((ao.take (k+1)).any (DN T)=false):=by unfold Hid;rw[bl.out,mg.out];simp[A,C,F]
      clear A C F mf;go_wp2;go_roundw
      case rel=>exact⟨k+1,O,An,b8,bc⟩
      case measure=>first|(simp[intOf];done)|(simp[intOf];omega)
  ·obtain rfl:k=n:=by omega
   obtain rfl:B=false:=by rw[<-ac.out,<-m.out,AO ME]
   exact RM
def ArY(x:TV)(T:Y)(p:Option Addr)(cap:Nat)(ao:List Int)(i:Int)(R:Bool)(w:World)(b0:Ah w x T)(cp:Du x)(b1:Aq w p ao)(s:ao.length<=17592186043904)(C:Hid (Na T ao i=R)):Calls prog 138 #[x.agg,.slice p ao.length cap,.int .i64 i] w (Ar (.bool R) w):=by
 obtain⟨A,co⟩:∃A,Hid (AB T ao=A):=⟨_,rfl⟩;have ac:=U (Am.new b0);have dG:=U b1;have bs:=λW (F:Ah W x T) G=>Jx x T p cap ao A W F cp G s co;obtain⟨n,bt⟩:∃n,ao.length=n:=⟨_,rfl⟩;rw[bt]at s bs|-;have bb:=U bt;have cq:=U bs;clear b0 b1 bt bs;have cv:=bb.out;simp only[TV.agg];go_enter func138,ntmps138;by_cases F:i<0
 ·have cr:decide (i<0)=true:=At F;obtain rfl:R=false:=by rw[<-C.out];unfold Na;rw[Ai (show ¬Jr T ao i from λh=>by have:=h.1;omega)];rfl
  exact Df
 ·have cr:decide (i<0)=false:=Ai F;by_cases G:(n:Int)<=i
  ·have cs:decide ((n:Int)<=i)=true:=At G;obtain rfl:R=false:=by rw[<-C.out];unfold Na;rw[Ai (show ¬Jr T ao i from λh=>by have:=h.2.1;omega)];rfl
   exact Df
  ·have cs:decide ((n:Int)<=i)=false:=Ai G;obtain⟨m,rfl⟩:∃m:Nat,i=m:=⟨i.toNat,O⟩;have er:m<n:=O;obtain⟨⟨cf,b8,b',b9,cd,b6⟩,⟨ci,cb,b7,ca,cc,cg⟩⟩:=ac.out.box.load;go_wp2_with fail;refine(cq.out _ ac.out.tab (dG.out.below ac.out.ab)).mono ?_;rintro e w1 ⟨rfl,b2⟩;replace ac:=U (ac.out.step b2);clear b2;clear cf b8 b' b9 cd b6 ci cb b7 ca cc cg;by_cases bl:A=0
   ·subst bl;have b3:Hid (Gq T ao m=R):=by unfold Hid;rw[<-Ab8 NY co.out];exact C.out
    have cu:m<ao.length:=NY;have cx:n<=4096:=Pv;have i5:Hid (BA T.aj=true):=ArO (CO (CN co.out).1).2.1;obtain⟨b,ff,rfl,bv⟩:=(dG.out.below ac.out.ab) m cu;obtain⟨c,bx⟩:∃c,ao.getD m 0=c:=⟨_,rfl⟩;rw[bx]at bv;have b4:Hid (R=(if c=183 then decide (QP ao m=108)&&decide (QJ ao m=108)else if c=885 then decide (m+1<ao.length)&&decide (Ep T (ao.getD (m+1) 0)=4)else if c=1523\/c=1524 then decide (0<m)&&decide (Ep T (ao.getD (m-1) 0)=11)else if c=12539 then ao.any (DN T)else if EQ c=true then !ao.any EB else if EB c=true then !ao.any EQ else true)):=by
     unfold Hid;rw[<-b3.out];unfold Gq;simp only;rw[bx]
    have cy:(0:Int)<=(m:Int):=O;have cA:(m:Int)<(n:Int):=O;clear C bx co b3;go_upto_region 4 with(fail);generalize w1=m4 at ac bv|-;clear bv;by_cases L:c=183
    ·subst L;replace b4:=b4.out;rw[N rfl]at b4;replace b4:=U b4;obtain⟨a,ce⟩:∃a,Hid (BJ ao ((m:Int)-1)=a):=⟨_,rfl⟩;obtain⟨d,cj⟩:∃a,Hid (BJ ao ((m:Int)+1)=a):=⟨_,rfl⟩;have j_:Hid (R=(decide (a=108)&&decide (d=108))):=by unfold Hid;rw[b4.out,<-ce.out,<-cj.out,Abb,Aba]
     have fu:IntKind.i64.wrap ((m:Int)-1)=(m:Int)-1:=AT _ O;have cB:IntKind.i64.wrap ((m:Int)+1)=(m:Int)+1:=AT _ O;clear b4;go_wp2_with fail;refine(OY _ n cap ao _ a _ (dG.out.below ac.out.ab) bb ce).mono ?_;rintro e w2 ⟨rfl,ad⟩;replace ac:=U (ac.out.step ad);clear ad;by_cases jh:a=108
     ·have la:(a==108)=true:=by simp[jh]
      obtain rfl:R=(d==108):=AwV;clear j_ jh;go_wp2_with fail;refine(OY _ n cap ao _ d _ (dG.out.below ac.out.ab) bb cj).mono ?_;rintro e w3 ⟨rfl,ad⟩;exact Z0
     ·exact AAc
    ·have cC:(c==183)=false:=by simp[L]
     by_cases am:c=885
     ·subst am;replace b4:=b4.out;rw[V Aw,N rfl]at b4;replace b4:=U b4;go_upto_region 7 with(fail);by_cases jn:m+1<n
      ·obtain⟨eH,f7⟩:∃j,j=m+1:=⟨_,rfl⟩;obtain⟨et,mh,bd,f6⟩:=(dG.out.below ac.out.ab) eH FD;injection bd with bd;injection bd with bd ct _;subst bd;subst ct;obtain⟨fs,hY⟩:∃c,ao.getD eH 0=c:=⟨_,rfl⟩;rw[hY]at f6;obtain⟨z,b5⟩:∃z,Hid (Ep T fs=z):=⟨_,rfl⟩;obtain rfl:R=(z==4):=by
        rw[b4.out];rw[At (show m+1<ao.length by rw[bb.out];exact jn),BG,<-f7,hY,b5.out];by_cases h:z=4<;>simp[h]
       have fu:IntKind.i64.wrap ((m:Int)+1)=(eH:Int):=(AT _ O).trans O;have lp:decide ((eH:Int)<(n:Int))=true:=At O;exact AAr
      ·obtain rfl:R=false:=by rw[b4.out,show decide (m+1<ao.length)=false from Ai (by rw[bb.out];exact jn)];rfl
       obtain⟨eH,f7⟩:∃j,j=m+1:=⟨_,rfl⟩;have fu:IntKind.i64.wrap ((m:Int)+1)=(eH:Int):=(AT _ O).trans O;have lp:decide ((eH:Int)<(n:Int))=false:=Ai O;have dz:¬eH<n:=O;clear f7;exact AAj
     ·have cD:(c==885)=false:=by simp[am]
      by_cases a9:c=1523
      ·subst a9;replace b4:=b4.out;rw[V Aw,V Aw,N (.inl rfl)]at b4;exact Az1
      ·have cF:(c==1523)=false:=by simp[a9]
       by_cases a':c=1524
       ·subst a';replace b4:=b4.out;rw[V Aw,V Aw,N (.inr rfl)]at b4;exact Az1
       ·have cI:(c==1524)=false:=by simp[a']
        by_cases ba:c=12539
        ·subst ba;replace b4:=b4.out;rw[V Aw,V Aw,V Aw,N rfl]at b4;replace b4:=U b4;obtain⟨k,q⟩:∃k,Hid (ao.any (DN T)=k):=⟨_,rfl⟩;obtain rfl:R=k:=by rw[b4.out,q.out]
         clear b4;obtain⟨⟨cf,b8,b',b9,cd,b6⟩,⟨ci,cb,b7,ca,cc,cg⟩⟩:=ac.out.box.load;go_wp2_with fail;refine(Asq x T _ n cap ao _ _ ac.out.tab i5.out (dG.out.below ac.out.ab) bb s q).mono ?_;rintro e w2 ⟨rfl,ad⟩;exact Aja
        ·have cO:(c==12539)=false:=by simp[ba]
         obtain⟨bc,cl⟩:∃bc,Hid (EQ c=bc):=⟨_,rfl⟩;obtain⟨be,cm⟩:∃be,Hid (EB c=be):=⟨_,rfl⟩;replace b4:=b4.out;rw[V L,V am,V (λh=>h.elim a9 a'),V ba,cl.out,cm.out]at b4;replace b4:=U b4;clear L am a9 a' ba;go_wp2_with fail;refine(XZ c 1632 1641 bc _ cl).mono ?_;rintro e w2 ⟨rfl,ad⟩;replace ac:=U (ac.out.step ad);clear ad;cases bc with
         | true =>
          replace b4:=b4.out;rw[N rfl]at b4;obtain⟨k,q⟩:∃k,Hid (ao.any EB=k):=⟨_,rfl⟩;obtain rfl:R = !k:=by rw[b4,q.out]
          clear b4;go_wp2_with fail;refine(Af2 1776 1785 EB (λ_=>rfl) _ n cap ao k _ (dG.out.below ac.out.ab) bb s q).mono ?_;rintro e w3 ⟨rfl,ad⟩;exact Z0
         | false =>
          replace b4:=b4.out;rw[V J]at b4;replace b4:=U b4;go_wp2_with fail;refine(XZ c 1776 1785 be _ cm).mono ?_;rintro e w3 ⟨rfl,ad⟩;replace ac:=U (ac.out.step ad);clear ad;cases be with
          | true =>
           replace b4:=b4.out;rw[N rfl]at b4;obtain⟨k,q⟩:∃k,Hid (ao.any EQ=k):=⟨_,rfl⟩;obtain rfl:R = !k:=by rw[b4,q.out]
           clear b4;go_wp2_with fail;refine(Af2 1632 1641 EQ (λ_=>rfl) _ n cap ao k _ (dG.out.below ac.out.ab) bb s q).mono ?_;rintro e c2 ⟨rfl,ad⟩;exact Z0
          | false =>
           replace b4:=b4.out;rw[V J]at b4;subst b4;exact Df
   ·have c3:(A !=0)=true:=by simp[bl]
    obtain rfl:R=false:=by rw[<-C.out];unfold Na;rw[Ai (show ¬Jr T ao m from λh=>bl (co.out.symm.trans h.2.2))];rfl
    exact U3
def ArS(x:TV)(T:Y)(p:Option Addr)(cap:Nat)(ao:List Int)(K E:Int)(w:World)(b1:Ah w x T)(b:Du x)(b2:Aq w p ao)(c:ao.length<=17592186043904)(c8:Hid (Ma T ao=(K,E))):Calls prog 98 #[x.agg,.slice p ao.length cap] w (Ar (.tuple #[.int .i64 K,.int .i64 E]) w):=by
 obtain⟨A,co⟩:∃A,Hid (AB T ao=A):=⟨_,rfl⟩;have ac:=U (Am.new b1);have b3:=U b2;have m:=λW (q:Ah W x T) s=>Jx x T p cap ao A W q b s c co;have C:=λ(k:Nat) R W (q:Ah W x T) s c8=>ArY x T p cap ao k R W q b s c c8;obtain⟨n,F⟩:∃n,ao.length=n:=⟨_,rfl⟩;rw[F]at c m C|-;have bb:=U F;have b7:=U m;have b8:=U C;clear b1 b2 F b C m;simp only[TV.agg];go_enter func98,ntmps98;obtain⟨⟨G,L,ad,am,a9,a'⟩,⟨ba,be,bs,bv,bx,b0⟩⟩:=ac.out.box.load;go_wp2_with fail;refine(b7.out _ ac.out.tab (b3.out.below ac.out.ab)).mono ?_;rintro e w1 ⟨rfl,b4⟩;replace ac:=U (ac.out.step b4);clear b4;clear G L ad am a9 a' ba be bs bv bx b0;by_cases bl:A=0
 ·subst bl;go_wp2;go_loopw[16] (λi wr=>∃k:Nat,k<=n/\i=.int .i64 k/\Hid (∀j,j<k->Gq T ao j=true)/\Hid (Am w x T wr)) (λi _=>n-(intOf i).toNat)
  case atStart=>exact⟨0,Au _,rfl,λj b9=>O,ac⟩
  case round=>
   obtain⟨k,cc,rfl,cA,bc⟩:=hrel;by_cases b':k<n
   ·have ca:k<ao.length:=by rw[bb.out];exact b'
    obtain⟨B,b5⟩:∃B,Hid (Na T ao k=B):=⟨_,rfl⟩;have ej:=b5.out;rw[Ab8 ca co.out]at ej;obtain⟨⟨G,L,ad,am,a9,a'⟩,⟨ba,be,bs,bv,bx,b0⟩⟩:=bc.out.box.load;go_wp2_with fail;refine(b8.out k B _ bc.out.tab (b3.out.below bc.out.ab) b5).mono ?_;rintro e w2 ⟨rfl,b6⟩;replace bc:=U (bc.out.step b6);clear b6;clear G L ad am a9 a' ba be bs bv bx b0;cases B with
    | true =>
     have cb:Hid (∀j,j<k+1->Gq T ao j=true):=λj b9=>ZI;clear ej;go_wp2;go_roundw
     case rel=>exact⟨k+1,O,An,cb,bc⟩
     case measure=>first|(simp[intOf];done)|(simp[intOf];omega)
    | false =>
     exact Az_
   ·exact Az8
 ·exact AAK
def Ash(p:Option Addr)(n cap:Nat)(ao:List Int)(B:Bool)(w:World)(C:Aq w p ao)(s:Hid (ao.length=n))(bb:n<=17592186043904)(F:Hid (IS ao=B)):Calls prog 95 #[.slice p n cap] w (Ar (.bool B) w):=by
 have A:=U C;have b1:=U (Al w.heap.size w);obtain⟨a0,G⟩:∃a,Hid (BJ ao 0=a):=⟨_,rfl⟩;obtain⟨a1,L⟩:∃a,Hid (BJ ao ((n:Int)-1)=a):=⟨_,rfl⟩;obtain⟨a2,ac⟩:∃a,Hid (BJ ao 2=a):=⟨_,rfl⟩;obtain⟨a3,ad⟩:∃a,Hid (BJ ao 3=a):=⟨_,rfl⟩;have k:Hid (B=(decide (a0≠45)&&decide (a1≠45) && !(decide (a2=45)&&decide (a3=45)))):=by
  unfold Hid;rw[<-F.out];unfold IS;rw[s.out,G.out,L.out,ac.out,ad.out]
 have bc:IntKind.i64.wrap ((n:Int)-1)=(n:Int)-1:=AT _ O;clear C F;go_enter func95,ntmps95;go_wp2_with fail;refine(OY _ n cap ao 0 a0 _ (A.out.below b1.out) s G).mono ?_;rintro e w1 ⟨rfl,b⟩;replace b1:=U (b1.out.trans (b.mono b1.out.size));clear b;by_cases c:a0=45
 ·have am:(a0 !=45)=false:=by simp[c]
  obtain rfl:B=false:=by rw[k.out,Ai (λh=>h c)];rfl
  clear c k;exact ML
 ·have am:(a0 !=45)=true:=by simp[c]
  go_wp2_with fail;refine(OY _ n cap ao ((n:Int)-1) a1 _ (A.out.below b1.out) s L).mono ?_;rintro e w2 ⟨rfl,b⟩;replace b1:=U (b1.out.trans (b.mono b1.out.size));clear b;by_cases m:a1=45
  ·have a9:(a1 !=45)=false:=by simp[m]
   obtain rfl:B=false:=by rw[k.out,At c,Ai (show ¬(a1≠45)from λh=>h m)];rfl
   clear c m k;exact ML
  ·have a9:(a1 !=45)=true:=by simp[m]
   go_wp2_with fail;refine(OY _ n cap ao 2 a2 _ (A.out.below b1.out) s ac).mono ?_;rintro e w3 ⟨rfl,b⟩;replace b1:=U (b1.out.trans (b.mono b1.out.size));clear b;by_cases q:a2=45
   ·have a':(a2==45)=true:=by simp[q]
    go_wp2_with fail;refine(OY _ n cap ao 3 a3 _ (A.out.below b1.out) s ad).mono ?_;rintro e bd ⟨rfl,b⟩;replace b1:=U (b1.out.trans (b.mono b1.out.size));clear b;obtain rfl:B = !(a3==45):=by rw[k.out,At c,At m,At q];by_cases ba:a3=45<;>simp[ba]
    clear c m q k;exact ML
   ·have a':(a2==45)=false:=by simp[q]
    obtain rfl:B=true:=by rw[k.out,At c,At m,Ai q];rfl
    clear c m q k;exact ML
def ArW(x:TV)(T:Y)(p:Option Addr)(cap:Nat)(ao:List Int)(m:Int)(w:World)(cy:Ah w x T)(bd:Du x)(cA:Aq w p ao)(am:ao.length<=17592186043904)(cB:Hid (Cn T ao=m)):Calls prog 61 #[x.agg,.slice p ao.length cap] w (Ar (.int .i64 m) w):=by
 obtain⟨A,b1⟩:∃A,Hid (AB T ao=A):=⟨_,rfl⟩;obtain⟨be,ce⟩:∃be,Hid (Ir T ao=be):=⟨_,rfl⟩;obtain⟨bs,cC⟩:∃bs,Hid (IS ao=bs):=⟨_,rfl⟩;obtain⟨c3,s,cj⟩:∃K E,Hid (Lj T ao=(K,E)):=⟨_,_,rfl⟩;obtain⟨c4,cl,cm⟩:∃K E,Hid (Ma T ao=(K,E)):=⟨_,_,rfl⟩;have ac:=U (Am.new cy);have C:=U cA;have co:=λW (a':Ah W x T) F=>Jx x T p cap ao A W a' bd F am b1;have cp:=λW (a':Ah W x T) F=>Asj x T p cap ao be W a' bd F am ce;have cq:=λW (a':Ah W x T) F=>Asl x T p cap ao c3 s W a' bd F am cj;have cr:=λW (a':Ah W x T) F=>ArS x T p cap ao c4 cl W a' bd F am cm;have bv:Hid ((if A≠0 then A else if ao=[]then 10 else if be=false then 13 else if bs=false then 14 else if Jj T (ao.getD 0 0)=2 then 15 else if ao.all (FA T)=false then 16 else if s≠0 then s else cl)=m):=by
  unfold Hid;rw[<-cB.out];unfold Cn;rw[b1.out,ce.out,cC.out,cj.out,cm.out]
 obtain⟨n,cs⟩:∃n,ao.length=n:=⟨_,rfl⟩;rw[cs]at am co cp cq cr|-;have bb:=U cs;have c5:=U co;have c6:=U cp;have c7:=U cq;have c8:=U cr;clear cy cA cs bd co cp cq cr cB ce cj cm;simp only[TV.agg];go_enter func61,ntmps61;obtain⟨⟨cf,b8,b',b9,cd,b6⟩,⟨ci,cb,b7,ca,cc,cg⟩⟩:=ac.out.box.load;go_wp2_with fail;refine(c5.out _ ac.out.tab (C.out.below ac.out.ab)).mono ?_;rintro e w1 ⟨rfl,ad⟩;replace ac:=U (ac.out.step ad);clear ad;clear cf b8 b' b9 cd b6 ci cb b7 ca cc cg;by_cases bl:A=0
 ·subst bl;have ct:=(CO (CN b1.out).1).2.1;have c9:Hid (BA T.cat=true):=by simp only[r2,BF,DQ,Gf,AJ]at ct;exact ct.1.1
  have c':Hid (BA T.ag=true):=by have:=(CO (CN b1.out).1).2.1;simp only[r2,BF,DQ,Gf,AJ]at this;exact this.1.2.2.2.2.2.1
  clear ct;replace bv:=bv.out;rw[V J]at bv;by_cases a':n=0
  ·exact AAg
  ·have dM:((n:Int)==0)=false:=by simp;omega
   have cD:ao≠[]:=λh=>a' Ah6;rw[V cD]at bv;have G:0<ao.length:=FD;replace bv:=U bv;clear cD;obtain⟨⟨cf,b8,b',b9,cd,b6⟩,⟨ci,cb,b7,ca,cc,cg⟩⟩:=ac.out.box.load;go_wp2_with fail;refine(c6.out _ ac.out.tab (C.out.below ac.out.ab)).mono ?_;rintro e w2 ⟨rfl,ad⟩;replace ac:=U (ac.out.step ad);clear ad;clear cf b8 b' b9 cd b6 ci cb b7 ca cc cg;cases be with
   | false =>
    obtain rfl:m=13:=Po;exact Df
   | true =>
    replace bv:=bv.out;rw[V J]at bv;replace bv:=U bv;go_wp2_with fail;refine(Ash _ n cap ao bs _ (C.out.below ac.out.ab) bb am cC).mono ?_;rintro e w3 ⟨rfl,ad⟩;replace ac:=U (ac.out.step ad);clear ad;cases bs with
    | false =>
     obtain rfl:m=14:=Po;exact Df
    | true =>
     replace bv:=bv.out;rw[V J]at bv;obtain⟨z,cu⟩:∃z,Hid (Jj T (ao.getD 0 0)=z):=⟨_,rfl⟩;rw[cu.out]at bv;replace bv:=U bv;go_upto_region 10 with(fail);obtain⟨b,ff,rfl,a9⟩:=(C.out.below ac.out.ab) 0 G;obtain⟨c,bt⟩:∃c,ao.getD 0 0=c:=⟨_,rfl⟩;rw[bt,E_]at a9;rw[bt]at cu;have dN:(0:Int)<(n:Int):=O;have dO:0<n:=O;have da:=λp=>Aj a9 p;have cv:=λp=>Dm (p:=p) λcF db=>ArR x T c z cF (ac.out.tab.below db) c9.out cu;simp only[TV.agg]at cv;have cI:=U cv;clear cv bt a9 G;obtain⟨⟨cf,b8,b',b9,cd,b6⟩,⟨ci,cb,b7,ca,cc,cg⟩⟩:=ac.out.box.load;have dc:=λp=>Aj cf p;have df:=λp=>Aj b8 p;have dj:=λp=>Aj b' p;have dk:=λp=>Aj b9 p;have dm:=λp=>Aj cd p;have dn:=λp=>Aj b6 p;have dq:=λp=>Aj ci p;have ds:=λp=>Aj cb p;have dx:=λp=>Aj b7 p;have dy:=λp=>Aj ca p;have dz:=λp=>Aj cc p;have dE:=λp=>Aj cg p;clear cf b8 b' b9 cd b6 ci cb b7 ca cc cg;refine DG Ax Ax ?_
     repeat (go_big_quiet_step ((go_at_call 96;with_reducible exact cI.out _)))
     refine wpQuiet_nil ?_;intro _ dF;obtain⟨pq,dG⟩:=dF;subst dG;replace ac:=U (ac.out.step (Dx w3 pq));generalize Cf w3 pq=cF at ac|-;clear dc df dj dk dm dn dq ds dx dy dz dE da cI;by_cases b2:z=2
     ·subst b2;obtain rfl:m=15:=Po;exact Df
     ·have dH:(z==2)=false:=by simp[b2]
      replace bv:=bv.out;rw[V b2]at bv;replace bv:=U bv;clear b2;rw[dH];go_wp2;go_loopw[41] (λi wr=>∃k:Nat,k<=n/\i=.int .i64 k/\Hid ((ao.take k).all (FA T)=true)/\Hid (Am w x T wr)) (λi _=>n-(intOf i).toNat)
      case atStart=>exact⟨0,Au _,rfl,rfl,ac⟩
      case round=>
       obtain⟨k,dP,rfl,b3,bc⟩:=hrel;by_cases dJ:k<n
       ·have G:k<ao.length:=by rw[bb.out];exact dJ
        obtain⟨dQ,dR,bx,a9⟩:=(C.out.below bc.out.ab) k G;injection bx with bx;injection bx with bx dK _;subst bx;subst dK;obtain⟨d,cx⟩:∃c,ao.getD k 0=c:=⟨_,rfl⟩;rw[cx]at a9;obtain⟨y,cO⟩:∃y,Hid (AM T d=y):=⟨_,rfl⟩;have q:Hid ((ao.take (k+1)).all (FA T)=(decide (d≠46)&&(decide (y=1)||decide (y=4)))):=by
         unfold Hid;rw[E9 G,IE,b3.out,BG];have e:ao[k]=d:=by rw[<-cx];simp[G]
         simp only[DQ,Gf,JP,e];unfold FA;rw[cO.out]
        have c2:Hid ((ao.take (k+1)).all (FA T)=false->m=16):=λh=>by
         rw[<-bv.out,N];cases b4:ao.all (FA T) with
         | false=>rfl
         | true =>
          have:(ao.take (k+1)).all (FA T)=true:=AR.2 λc bt=>AR.1 b4 c (KW bt);rw[h]at this;cases this
        clear cx G b3;obtain⟨⟨cf,b8,b',b9,cd,b6⟩,⟨ci,cb,b7,ca,cc,cg⟩⟩:=bc.out.box.load;go_wp2_with fail;refine(Ub x T d y _ bc.out.tab c'.out cO).mono ?_;rintro e dS ⟨rfl,ad⟩;replace bc:=U (bc.out.step ad);clear ad a9;clear cf b8 b' b9 cd b6 ci cb b7 ca cc cg;by_cases L:d=46
        ·subst L;obtain rfl:m=16:=c2.out (by rw[q.out];simp);clear q;exact RM
        ·have dT:(d==46)=false:=by simp[L]
         by_cases b0:y=1
         ·subst b0;have fG:Hid ((ao.take (k+1)).all (FA T)=true):=by unfold Hid;rw[q.out];simp[L]
          clear L q;exact Aym
         ·have dU:(y !=1)=true:=by simp[b0]
          by_cases b5:y=4
          ·subst b5;have fG:Hid ((ao.take (k+1)).all (FA T)=true):=by unfold Hid;rw[q.out];simp[L]
           clear L q b0;exact Aym
          ·have dV:(y !=4)=true:=by simp[b5]
           obtain rfl:m=16:=c2.out (by rw[q.out];simp[b0,b5]);clear L q b0 b5;exact RM
       ·have b4:ao.all (FA T)=true:=by have h:=b3.out;rwa[AO FD]at h
        replace bv:=bv.out;rw[V (by rw[b4];simp)]at bv;replace bv:=U bv;replace ac:=bc;clear b4 b3 bc;obtain⟨⟨cf,b8,b',b9,cd,b6⟩,⟨ci,cb,b7,ca,cc,cg⟩⟩:=ac.out.box.load;go_wp2_with fail;refine(c7.out _ ac.out.tab (C.out.below ac.out.ab)).mono ?_;rintro e w6 ⟨rfl,ad⟩;replace ac:=U (ac.out.step ad);clear ad;clear cf b8 b' b9 cd b6 ci cb b7 ca cc cg;by_cases ba:s=0
        ·have dL:(s !=0)=false:=by simp[ba]
         obtain rfl:m=cl:=by rw[<-bv.out,V (by rw[ba];simp)]
         clear ba;obtain⟨⟨cf,b8,b',b9,cd,b6⟩,⟨ci,cb,b7,ca,cc,cg⟩⟩:=ac.out.box.load;go_wp2_with fail;refine(c8.out _ ac.out.tab (C.out.below ac.out.ab)).mono ?_;rintro e dW ⟨rfl,ad⟩;exact Aja
        ·have dL:(s !=0)=true:=by simp[ba]
         obtain rfl:m=s:=by rw[<-bv.out,N ba]
         clear ba;exact Df
 ·have dX:(A !=0)=true:=by simp[bl]
  obtain rfl:m=A:=by rw[<-bv.out,N bl]
  exact U3
end Go.Proofs.YtblcoicaeeiojaaGreatDoor
