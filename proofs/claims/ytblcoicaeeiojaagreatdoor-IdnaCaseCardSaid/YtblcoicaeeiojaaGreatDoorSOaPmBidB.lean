/- bidi: contracts of the p -/
import Derived.Test.YtblcoicaeeiojaaGreatDoorSOaPmBidFact
set_option linter.all false
set_option maxHeartbeats 4000000
set_option maxRecDepth 100000
open Go.Proofs.Tryz
namespace Go.Proofs.YtblcoicaeeiojaaGreatDoor
open Go.RowKit
def AsJ{w: World}{b: Nat}{x y z u v q: Value}{t: TypeId}(h: w.heap[b]? = some (.cells #[x, y, z] t (0, 0))) :
  (((w.setCell ⟨b,0,none⟩ u).setCell ⟨b,1,none⟩ v).setCell ⟨b,2,none⟩ q).heap[b]? = some (.cells #[u,v,q] t (0,0)):=AyW
def F1(w:World)(g:Nat)(a b c:Int):Prop:=
 w.cell? ⟨g,0,none⟩=some (.int .u64 a)/\w.cell? ⟨g,1,none⟩=some (.int .u64 b)/\w.cell? ⟨g,2,none⟩=some (.int .u64 c)/\w.frozen? ⟨g,0,none⟩=false/\w.frozen? ⟨g,1,none⟩=false/\w.frozen? ⟨g,2,none⟩=false/\g<w.heap.size
theorem F1.new(w:World)(a b c:Int)(e:TypeId):F1 (w.alloc (.cells #[.int .u64 a,.int .u64 b,.int .u64 c] e)) w.heap.size a b c:=by
 refine⟨?_,?_,?_,?_,?_,?_,?_⟩<;>simp[Cy]
theorem F1.below{w w':World}{g:Nat}{a b c:Int}(h:F1 w g a b c)(ad:Below w.heap.size w w'):F1 w' g a b c:=Avo
theorem F1.aE{w:World}{g:Nat}{a b c:Int}(h:F1 w g a b c)(x:Int):F1 (w.setCell ⟨g,0,none⟩ (.int .u64 x)) g x b c:=Ayh
theorem F1.aK{w:World}{g:Nat}{a b c:Int}(h:F1 w g a b c)(x:Int):F1 (w.setCell ⟨g,1,none⟩ (.int .u64 x)) g a x c:=Ayi
theorem F1.aF{w:World}{g:Nat}{a b c:Int}(h:F1 w g a b c)(x:Int):F1 (w.setCell ⟨g,2,none⟩ (.int .u64 x)) g a b x:=Ayj
theorem AS.di{w:World}{g k o:Nat}{v:Value}{x:TV}(h:AS w g x)(eQ:g≠k):AS (w.setCell ⟨k,o,none⟩ v) g x:=Ayd
theorem Am.bm{w0 w:World}{x:TV}{T:Y}(h:Am w0 x T w)(c:Ah w0 x T){k o:Nat}{v:Value}(e:w0.heap.size<k):Am w0 x T (w.setCell ⟨k,o,none⟩ v):=
 have b:Below w0.heap.size w0 (w.setCell ⟨k,o,none⟩ v):=h.ab.setCell (p:=⟨k,o,none⟩) (Sn e) v
 ⟨c.below b,h.box.di O,b⟩
structure GO (w0 w:World) (x:TV) (T:Y) (a b c:Int):Prop where
 aD:Ah w0 x T
 env:Am w0 x T w
 au:w.heap[w0.heap.size+1]? = some (.cells #[.int .u64 0,.int .u64 0,.int .u64 0] 113 (0,0))
 az:F1 w (w0.heap.size+2) a b c
theorem GO.step{w0 w w':World}{x:TV}{T:Y}{a b c:Int}(h:GO w0 w x T a b c)(e:Below w.heap.size w w'):GO w0 w' x T a b c:=⟨h.aD,h.env.step e,(e.block _ Axu).trans h.au,h.az.below e⟩
theorem GO.new{w:World}{x:TV}{T:Y}(h:Ah w x T)(b:TypeId):GO w (((w.alloc (.cells (AG x) 26)).alloc (.cells #[.int .u64 0,.int .u64 0,.int .u64 0] 113)).alloc (.cells #[.int .u64 0,.int .u64 0,.int .u64 0] b)) x T 0 0 0:=by
 have bt:(w.alloc (.cells (AG x) 26)).heap.size=w.heap.size+1:=J;have a':=IC (w.alloc (.cells (AG x) 26)) (.cells #[.int .u64 0,.int .u64 0,.int .u64 0] 113);have bd:((w.alloc (.cells (AG x) 26)).alloc (.cells #[.int .u64 0,.int .u64 0,.int .u64 0] 113)).heap.size=w.heap.size+2:=J;have be:=F1.new ((w.alloc (.cells (AG x) 26)).alloc (.cells #[.int .u64 0,.int .u64 0,.int .u64 0] 113)) 0 0 0 b;exact Avw
theorem GO.aE{w0 w:World}{x:TV}{T:Y}{a b c:Int}(h:GO w0 w x T a b c)(u:Int):GO w0 (w.setCell ⟨w0.heap.size+2,0,none⟩ (.int .u64 u)) x T u b c:=⟨h.aD,h.env.bm h.aD O,(MN _ _ _ _ J).trans h.au,h.az.aE u⟩
theorem GO.aK{w0 w:World}{x:TV}{T:Y}{a b c:Int}(h:GO w0 w x T a b c)(u:Int):GO w0 (w.setCell ⟨w0.heap.size+2,1,none⟩ (.int .u64 u)) x T a u c:=⟨h.aD,h.env.bm h.aD O,(MN _ _ _ _ J).trans h.au,h.az.aK u⟩
theorem GO.aF{w0 w:World}{x:TV}{T:Y}{a b c:Int}(h:GO w0 w x T a b c)(u:Int):GO w0 (w.setCell ⟨w0.heap.size+2,2,none⟩ (.int .u64 u)) x T a b u:=⟨h.aD,h.env.bm h.aD O,(MN _ _ _ _ J).trans h.au,h.az.aF u⟩
def Mn{a:Nat}{A:Int}(m:Nat)(b:a<4096)(c:Hid ((a:Int)=A))(e:m<4096):bits .and .u64 A (m:Int)=((a &&& m:Nat):Int):=by
 rw[<-c.out];exact AuA a m b e
def Arr:∀n:Nat,n<=11->n≠10->2^n≠1024:=λn h b e=>by
 have c:∀k:Fin 12,k.val≠10->2^k.val≠1024:=Aw;exact c ⟨n,O⟩ b e
def Am'(T:Y)(l:List Int)(k:Nat)(h:k<l.length):G8 T (l.take (k+1))=if k=0 then F2 (B_ T (l.getD k 0))else G8 T (l.take k):=by
 by_cases b:k=0
 ·subst b;rw[N rfl,Wj T l 0 O]
 ·rw[V b,Wj T l k O];obtain⟨j,rfl⟩:∃j,k=j+1:=⟨k-1,O⟩;rw[Wj T l j O]
def AkD(x:TV)(T:Y)(p:Option Addr)(n cap:Nat)(ao:List Int)(F L A:Int)(w:World)(b9:Ah w x T)(ac:Av T=0)(b':Aq w p ao)(bb:Hid (ao.length=n))(c2:n<=17592186043904)(hF:Hid ((G8 T ao:Int)=F))(ca:Hid ((He T ao:Int)=L))(cb:Hid ((DU T ao:Int)=A)):Calls prog 109 #[x.agg,.slice p n cap] w (Ar (.agg #[.int .u64 F,.int .u64 L,.int .u64 A]) w):=by
 have b7:=U (GO.new b9 113);have cg:=U b';have cc:=U ac;have ci:Hid (AH 0 T.ak=true):=(Mr (CO ac).2.1).2.2.2.1;clear b9 b' ac;simp only[AG]at b7;simp only[TV.agg];go_enter func109,ntmps109;go_upto_region 2 with(fail);generalize cj:(((w.alloc _).alloc _).alloc _)=c3 at b7|-;clear cj;go_wp2;go_loopw[11] (λi wr=>∃k:Nat,∃a b c:Int,k<=n/\i=.int .i64 k/\Hid ((G8 T (ao.take k):Int)=a)/\Hid ((He T (ao.take k):Int)=b)/\Hid ((DU T (ao.take k):Int)=c)/\Hid (GO w wr x T a b c)) (λi _=>n-(intOf i).toNat)
 case atStart=>exact⟨0,0,0,0,Au _,rfl,U rfl,U rfl,U rfl,b7⟩
 case round=>
  obtain⟨k,a,b,c,c4,rfl,be,bl,bs,b2⟩:=hrel;by_cases cl:k<n
  ·have a9:k<ao.length:=by rw[bb.out];exact cl
   obtain⟨g,ff,rfl,ac⟩:=(cg.out.below b2.out.env.ab) k a9;obtain⟨d,a'⟩:∃d,ao.getD k 0=d:=⟨_,rfl⟩;rw[a']at ac;obtain⟨z,ba⟩:∃z,Hid (B_ T d=z):=⟨_,rfl⟩;have cd:=L_ cc.out d;rw[ba.out]at cd;obtain⟨c5,ce⟩:=cd;have c6:z<=64:=O;obtain⟨q,G⟩:∃q:Int,Hid (((F2 z:Nat):Int)=q):=⟨_,rfl⟩;have bt:F2 z=2^z.toNat:=by unfold F2;rw[V O]
   have c7:IntKind.u64.wrap (2^z.toNat)=q:=by rw[AuC z.toNat O,<-bt];exact G.out
   obtain⟨r,bc⟩:∃r:Int,Hid (((DU T (ao.take (k+1)):Nat):Int)=r):=⟨_,rfl⟩;have c8:bits .or .u64 c q=r:=by
    rw[<-bc.out,<-bs.out,<-G.out,All T ao k a9,a',ba.out,<-bt];exact AuB _ _ (AbN cc.out _) (VM ce)
   have C:Hid ((G8 T (ao.take (k+1)):Int)=if k=0 then q else a):=by
    unfold Hid;rw[Am' T ao k a9,a',ba.out,<-G.out,<-be.out];split<;>rfl
   have s:Hid ((He T (ao.take (k+1)):Int)=if z=10 then b else q):=by
    unfold Hid;rw[Apb T ao k a9,a',ba.out,<-G.out,<-bl.out];split<;>rfl
   have ad:Hid (z≠10->q≠1024):=λh e=>by
    have cm:=G.out;rw[bt,e]at cm;exact Arr z.toNat O O O
   have am:Hid (z=10->q=1024):=λh=>by rw[<-G.out,h];rfl
   clear a' a9 be bl bs bt G ce;obtain⟨⟨co,cp,cq,cr,cs,ct⟩,⟨cu,cv,cx,cy,cA,cB⟩⟩:=b2.out.env.box.load;go_wp2_with fail;refine(AkB x T d z _ b2.out.env.tab ci.out ba).mono ?_;rintro e w2 ⟨rfl,cf⟩;replace b2:=U (b2.out.step cf);clear cf ac;clear co cp cq cr cs ct cu cv cx cy cA cB;by_cases bd:k=0
   ·have cC:((k:Int)==0)=true:=by simp[bd]
    replace C:Hid ((G8 T (ao.take (k+1)):Int)=q):=by unfold Hid;rw[C.out,N bd]
    clear bd;by_cases m:z=10
    ·have b8:(q !=1024)=false:=by simp[am.out m]
     replace s:Hid ((He T (ao.take (k+1)):Int)=b):=by unfold Hid;rw[s.out,N m]
     clear m ad am;obtain⟨bv,bx,b0,b1,b3,b4,b5⟩:=b2.out.az;replace b2:=U (b2.out.aE q);replace b2:=U (b2.out.aF r);go_wp2;go_roundw
     case rel=>exact⟨k+1,q,b,r,O,An,C,s,bc,b2⟩
     case measure=>first|(simp[intOf];done)|(simp[intOf];omega)
    ·have b8:(q !=1024)=true:=by simp[ad.out m]
     replace s:Hid ((He T (ao.take (k+1)):Int)=q):=by unfold Hid;rw[s.out,V m]
     clear m ad am;obtain⟨bv,bx,b0,b1,b3,b4,b5⟩:=b2.out.az;replace b2:=U (b2.out.aE q);replace b2:=U (b2.out.aK q);replace b2:=U (b2.out.aF r);go_wp2;go_roundw
     case rel=>exact⟨k+1,q,q,r,O,An,C,s,bc,b2⟩
     case measure=>first|(simp[intOf];done)|(simp[intOf];omega)
   ·have cC:((k:Int)==0)=false:=by simp;omega
    replace C:Hid ((G8 T (ao.take (k+1)):Int)=a):=by unfold Hid;rw[C.out,V bd]
    have c9:0<k:=O;clear bd;by_cases m:z=10
    ·have b8:(q !=1024)=false:=by simp[am.out m]
     replace s:Hid ((He T (ao.take (k+1)):Int)=b):=by unfold Hid;rw[s.out,N m]
     clear m ad am;obtain⟨bv,bx,b0,b1,b3,b4,b5⟩:=b2.out.az;replace b2:=U (b2.out.aF r);go_wp2;go_roundw
     case rel=>exact⟨k+1,a,b,r,O,An,C,s,bc,b2⟩
     case measure=>first|(simp[intOf];done)|(simp[intOf];omega)
    ·have b8:(q !=1024)=true:=by simp[ad.out m]
     replace s:Hid ((He T (ao.take (k+1)):Int)=q):=by unfold Hid;rw[s.out,V m]
     clear m ad am;obtain⟨bv,bx,b0,b1,b3,b4,b5⟩:=b2.out.az;replace b2:=U (b2.out.aK q);replace b2:=U (b2.out.aF r);go_wp2;go_roundw
     case rel=>exact⟨k+1,a,q,r,O,An,C,s,bc,b2⟩
     case measure=>first|(simp[intOf];done)|(simp[intOf];omega)
  ·obtain rfl:k=n:=by omega
   have b6:ao.length<=k:=ME;obtain rfl:F=a:=by rw[<-hF.out,<-be.out,AO b6]
   obtain rfl:L=b:=by rw[<-ca.out,<-bl.out,AO b6]
   obtain rfl:A=c:=by rw[<-cb.out,<-bs.out,AO b6]
   clear be bl bs hF ca cb b6;obtain⟨bv,bx,b0,b1,b3,b4,b5⟩:=b2.out.az;have fe:=b2.out.au;have cD:=Es wr (w.heap.size+1) 0 _ _ (0,0) fe;have cF:=Es wr (w.heap.size+1) 1 _ _ (0,0) fe;have cI:=Es wr (w.heap.size+1) 2 _ _ (0,0) fe;have c':wr.frozen? ⟨w.heap.size+1,0,none⟩=false:=NW;have da:wr.frozen? ⟨w.heap.size+1,1,none⟩=false:=NW;have db:wr.frozen? ⟨w.heap.size+1,2,none⟩=false:=NW;have cO:=U fe;clear fe;simp only[Aan,Oa,N']at cD cF cI;go_wp2;refine FF (R3 rfl _ _ (w.heap.size+1) _ _ _ _ rfl (AsJ cO.out) underlying113 rfl Ax) rfl ?_;exact Azc
def AkH(R:Bool)(f l a:Nat)(F L A:Int)(w:World)(m:f<4096)(q:l<4096)(h:a<4096)(s:Hid ((f:Int)=F))(C:Hid ((l:Int)=L))(k:Hid ((a:Int)=A))(c:Hid (decide (a &&& 14≠0)=R)):Calls prog 110 #[.agg #[.int .u64 F,.int .u64 L,.int .u64 A]] w (Ar (.bool R) w):=by
 obtain⟨e,b⟩:∃M:Int,Hid (((a &&& 14:Nat):Int)=M):=⟨_,rfl⟩;have G:bits .and .u64 A 14=e:=(Mn 14 h k O).trans b.out;obtain rfl:R=(e !=0):=by
  rw[<-c.out,<-b.out,Gd,PU,bne_iff_ne];omega
 clear c b;go_enter func110,ntmps110;exact UH
def AkN(am:Int)(f l a:Nat)(F L A:Int)(w:World)(bs:f<4096)(ba:l<4096)(a9:a<4096)(bt:Hid ((f:Int)=F))(bb:Hid ((l:Int)=L))(a':Hid ((a:Int)=A))(bc:Hid (Uy l a=am)):Calls prog 171 #[.agg #[.int .u64 F,.int .u64 L,.int .u64 A]] w (Ar (.int .i64 am) w):=by
 have b:=bc.out;unfold Uy at b;obtain⟨e,hU⟩:∃M:Int,Hid (((a &&& 2049:Nat):Int)=M):=⟨_,rfl⟩;have bv:bits .and .u64 A 2049=e:=(Mn 2049 a9 a' O).trans hU.out;have C:Hid (a &&& 2049=0↔e=0):=AhL;clear hU;by_cases c:e≠0
 ·have bd:(e !=0)=true:=by simp[c]
  rw[N (λh=>c (C.out.1 h))]at b;subst b;clear C;clear c;exact ZS
 ·replace c:e=0:=by omega
  have bd:(e !=0)=false:=by simp[c]
  rw[V (λh=>h (C.out.2 c))]at b;clear C;clear c;obtain⟨q,hT⟩:∃M:Int,Hid (((l &&& 30:Nat):Int)=M):=⟨_,rfl⟩;have bx:bits .and .u64 L 30=q:=(Mn 30 ba bb O).trans hT.out;have G:Hid (l &&& 30=0↔q=0):=AhM;clear hT;by_cases k:q=0
  ·have be:(q==0)=true:=by simp[k]
   rw[N (G.out.2 k)]at b;subst b;clear G;clear k;exact ZS
  ·have be:(q==0)=false:=by simp[k]
   rw[V (λh=>k (G.out.1 h))]at b;clear G;clear k;obtain⟨s,ad⟩:∃M:Int,Hid (((a &&& 24:Nat):Int)=M):=⟨_,rfl⟩;have b0:bits .and .u64 A 24=s:=(Mn 24 a9 a' O).trans ad.out;have ac:Hid (a &&& 24=24↔s=24):=by unfold Hid;rw[<-ad.out];omega
   clear ad;by_cases m:s=24
   ·have bl:(s==24)=true:=by simp[m]
    rw[N (ac.out.2 m)]at b;subst b;clear ac;clear m;exact ZS
   ·have bl:(s==24)=false:=by simp[m]
    rw[V (λh=>m (ac.out.1 h))]at b;clear ac;clear m;subst b;exact ZS
def AkM(C:Int)(f l a:Nat)(F L A:Int)(w:World)(bb:f<4096)(G:l<4096)(ac:a<4096)(bc:Hid ((f:Int)=F))(ad:Hid ((l:Int)=L))(am:Hid ((a:Int)=A))(a9:Hid (Ux l a=C)):Calls prog 172 #[.agg #[.int .u64 F,.int .u64 L,.int .u64 A]] w (Ar (.int .i64 C) w):=by
 have b:=a9.out;unfold Ux at b;obtain⟨e,hU⟩:∃M:Int,Hid (((a &&& 2062:Nat):Int)=M):=⟨_,rfl⟩;have bd:bits .and .u64 A 2062=e:=(Mn 2062 ac am O).trans hU.out;have q:Hid (a &&& 2062=0↔e=0):=AhL;clear hU;by_cases c:e≠0
 ·have a':(e !=0)=true:=by simp[c]
  rw[N (λh=>c (q.out.1 h))]at b;subst b;clear q;clear c;exact Ai1
 ·replace c:e=0:=by omega
  have a':(e !=0)=false:=by simp[c]
  rw[V (λh=>h (q.out.2 c))]at b;clear q;clear c;obtain⟨m,hT⟩:∃M:Int,Hid (((l &&& 17:Nat):Int)=M):=⟨_,rfl⟩;have be:bits .and .u64 L 17=m:=(Mn 17 G ad O).trans hT.out;have s:Hid (l &&& 17=0↔m=0):=AhM;clear hT;by_cases k:m=0
  ·have ba:(m==0)=true:=by simp[k]
   rw[N (s.out.2 k)]at b;subst b;clear s;clear k;exact Ai1
  ·have ba:(m==0)=false:=by simp[k]
   rw[V (λh=>k (s.out.1 h))]at b;clear s;clear k;subst b;exact Ai1
def Abq(G:Int)(f l a:Nat)(F L A:Int)(w:World)(ac:f<4096)(bb:l<4096)(bc:a<4096)(am:Hid ((f:Int)=F))(bd:Hid ((l:Int)=L))(a9:Hid ((a:Int)=A))(m:Hid (Rp f l a=G)):Calls prog 111 #[.agg #[.int .u64 F,.int .u64 L,.int .u64 A]] w (Ar (.int .i64 G) w):=by
 have b:=m.out;unfold Rp at b;by_cases a':A=0
 ·have be:(A==0)=true:=by simp[a']
  rw[N (by have:=a9.out;omega)]at b;subst b;clear a';go_enter func111,ntmps111;exact UH
 ·have be:(A==0)=false:=by simp[a']
  rw[V (by have:=a9.out;omega)]at b;clear a';obtain⟨q,hU⟩:∃M:Int,Hid (((f &&& 6:Nat):Int)=M):=⟨_,rfl⟩;have bt:bits .and .u64 F 6=q:=(Mn 6 ac am O).trans hU.out;obtain⟨s,hT⟩:∃M:Int,Hid (((f &&& 1:Nat):Int)=M):=⟨_,rfl⟩;have bv:bits .and .u64 F 1=s:=(Mn 1 ac am O).trans hT.out;have ba:Hid (f &&& 6=0↔q=0):=AhL;have C:Hid (f &&& 1=0↔s=0):=AhM;clear hU hT;by_cases c:q=0
  ·have bl:(q !=0)=false:=by simp[c]
   rw[V (λh=>h (ba.out.2 c))]at b;clear c ba;by_cases k:s=0
   ·have bs:(s !=0)=false:=by simp[k]
    rw[V (λh=>h (C.out.2 k))]at b;subst b;clear k C;go_enter func111,ntmps111;exact UH
   ·have bs:(s !=0)=true:=by simp[k]
    rw[N (λh=>k (C.out.1 h))]at b;replace m:=U b;clear k C b;go_enter func111,ntmps111;go_wp2_with fail;refine(AkM G f l a F L A _ ac bb bc am bd a9 m).mono ?_;exact Ayf
  ·have bl:(q !=0)=true:=by simp[c]
   rw[N (λh=>c (ba.out.1 h))]at b;replace m:=U b;clear c ba b C;go_enter func111,ntmps111;go_wp2_with fail;refine(AkN G f l a F L A _ ac bb bc am bd a9 m).mono ?_;exact Ayf
def Al4{T:Y}{L:List (List Int)}(h:Av T≠0)(c:0<L.length):Cu T L=(0,2):=by
 have b:∀l,AB T l=2:=λl=>by unfold AB;rw[N h]
 have:=Acs (T:=T) (L:=L) (i:=0) c (λj e=>O) (by rw[b];decide);rw[this,b];rfl
def Hh(T:Y)(L:List (List Int))(k:Nat)(V:Int):Prop:=(V = -1/\∀j,j<k->Dd T (L.getD j [])=0)\/∃i,i<k/\V=(i:Int)/\(∀j,j<i->Dd T (L.getD j [])=0)/\Dd T (L.getD i [])≠0
def Au1(T:Y)(L:List (List Int)):Hh T L 0 (-1):=.inl ⟨rfl,λj b=>O⟩
def AgV{T:Y}{L:List (List Int)}{k:Nat}{V:Int}(h:Hh T L k V)(m:Dd T (L.getD k [])=0):Hh T L (k+1) V:=by
 rcases h with⟨c,b⟩|⟨i,c,b,q,s⟩
 ·refine .inl ⟨c,λj A=>?_⟩;by_cases e:j=k
  ·rw[e];exact m
  ·exact b j O
 ·exact .inr ⟨i,O,b,q,s⟩
def AgT{T:Y}{L:List (List Int)}{k:Nat}{V:Int}(h:Hh T L k V)(e:V≠-1):Hh T L (k+1) V:=by
 rcases h with⟨b,c⟩|⟨i,b,c,m,q⟩
 ·exact absurd b e
 ·exact .inr ⟨i,O,c,m,q⟩
def AgU{T:Y}{L:List (List Int)}{k:Nat}{V:Int}(h:Hh T L k V)(m:V = -1)(c:Dd T (L.getD k [])≠0):Hh T L (k+1) (k:Int):=by
 rcases h with⟨e,b⟩|⟨i,e,b,q,s⟩
 ·exact .inr ⟨k,O,rfl,b,c⟩
 ·omega
def Al5{T:Y}{L:List (List Int)}{V:Int}(b:∀l∈L,AB T l=0)(h:Hh T L L.length V):Cu T L=if L.any (EF T)=true/\V≠-1 then(V,19) else(0,0):=by
 cases m:L.any (EF T) with
 | false=>rw[if_neg (λh=>by cases h.1)];exact V4 b m
 | true =>
  rcases h with⟨c,k⟩|⟨i,c,k,q,s⟩
  ·rw[if_neg (λh=>h.2 c)]
   refine Acr b λl A=>?_
   obtain⟨j,C,e⟩:=W_ L l A
   rw[<-e];exact k j C
  ·rw[if_pos ⟨rfl,by omega⟩,k]
   exact Acu b m c q s
def Aj9(q:List Int->Bool)(L:List (List Int))(k:Nat)(h:k<L.length):(L.take (k+1)).any q=((L.take k).any q||q (L.getD k [])):=by
 rw[E9 h,MP];simp[h]
def AkG(x:TV)(T:Y)(p:Option Addr)(cap:Nat)(ao:List Int)(E:Int)(w:World)(c:Ah w x T)(h:Bi w)(k:Aq w p ao)(m:ao.length<=17592186043904)(s:Hid (AB T ao=E)):Calls prog 108 #[x.agg,.slice p ao.length cap] w (Ar (.int .i64 E) w):=by
 obtain⟨A,C⟩:∃L,Hid (LF T ao=L):=⟨_,rfl⟩;have b:=λW (F:Ah W x T) G ad=>O3 x T p cap ao E A W F G ad m s C;have dm:=U h;have ac:=U (Am.new c);have dG:=U k;obtain⟨n,q⟩:∃n,ao.length=n:=⟨_,rfl⟩;rw[q]at m b|-;have iL:=U b;clear c k q h b;simp only[TV.agg];go_enter func108,ntmps108;exact UY
def Akx(x:TV)(T:Y)(p:Option Addr)(n cap:Nat)(L:List (List Int))(K E:Int)(w:World)(c4:Ah w x T)(c5:Bi w)(c6:Ey w p L)(bb:Hid (L.length=n))(cl:0<n/\n<=17592186043904)(be:∀l∈L,l.length<=17592186043904)(c8:Hid (Cu T L=(K,E))):Calls prog 69 #[x.agg,.slice p n cap] w (Ar (.tuple #[.int .i64 K,.int .i64 E]) w):=by
 obtain⟨bv,cx⟩:∃bv,Hid (Av T=bv):=⟨_,rfl⟩;have ac:=U (Am.new c4);have dm:=U c6;have dn:=U be;have c7:=U c5;obtain⟨c9,cl⟩:=cl;clear c4 c6 be c5;simp only[TV.agg];go_enter func69,ntmps69;obtain⟨⟨b1,b2,b3,b4,b5,b6⟩,⟨b7,b8,b9,b',ca,cb⟩⟩:=ac.out.box.load;go_wp2_with fail;refine(VQ x T bv _ ac.out.tab (c7.out.below ac.out.ab) cx).mono ?_;rintro e w1 ⟨rfl,c'⟩;replace ac:=U (ac.out.step c');clear c';clear b1 b2 b3 b4 b5 b6 b7 b8 b9 b' ca cb;by_cases bx:bv=0
 ·have dq:(bv !=0)=false:=by simp[bx]
  have ds:Hid (Av T=0):=by unfold Hid;rw[cx.out,bx]
  clear bx;go_wp2;go_loopw[6,7,17] (λv u i wr=>∃k:Nat,∃G:Bool,∃s:Int,k<=n/\i=.int .i64 k/\v=.bool G/\u=.int .i64 s/\Hid ((L.take k).any (EF T)=G)/\Hid (Hh T L k s)/\Hid (∀j,j<k->AB T (L.getD j [])=0)/\Hid (Am w x T wr)) (λ_ _ i _=>n-(intOf i).toNat)
  case atStart=>exact⟨0,false,-1,Au _,rfl,rfl,rfl,U rfl,U (Au1 T L),λj ed=>O,ac⟩
  case round=>
   obtain⟨k,G,s,dX,rfl,rfl,rfl,cy,bs,cA,bc⟩:=hrel;by_cases dx:k<n
   ·have dJ:k<L.length:=by rw[bb.out];exact dx
    obtain⟨b,ff,q,c,rfl,cB,_,dI⟩:=(dm.out.below bc.out.ab) k dJ;obtain⟨ao,cr⟩:∃l,L.getD k []=l:=⟨_,rfl⟩;have ad:=U (Aj9 (EF T) L k dJ);have da:Hid (ao.length<=17592186043904):=by unfold Hid;rw[<-cr];exact dn.out _ (Qt L k dJ)
    rw[cr]at cB dI ad;have cs:=U dI;obtain⟨A,co⟩:∃A,Hid (AB T ao=A):=⟨_,rfl⟩;have jk:=U cr;rw[cy.out]at ad;have cC:=λW (dy:Ah W x T) dz dE=>AkG x T q c ao A W dy dz dE da.out co;obtain⟨m,cD⟩:∃m,ao.length=m:=⟨_,rfl⟩;have db:=da.out;rw[cD]at cC cB db;have dF:=U cD;have dG:=U cC;clear cr dI cC cD;obtain⟨⟨b1,b2,b3,b4,b5,b6⟩,⟨b7,b8,b9,b',ca,cb⟩⟩:=bc.out.box.load;go_wp2_with fail;refine(dG.out _ bc.out.tab (c7.out.below bc.out.ab) cs.out).mono ?_;rintro e w2 ⟨rfl,C⟩;replace bc:=U (bc.out.step C);replace cs:=U (cs.out.below C);clear C cB;clear b1 b2 b3 b4 b5 b6 b7 b8 b9 b' ca cb;by_cases bl:A=0
    ·subst bl;have b0:Hid (∀j,j<k+1->AB T (L.getD j [])=0):=λj ed=>AAv;obtain⟨f,ct⟩:∃f:Nat,G8 T ao=f:=⟨_,rfl⟩;obtain⟨l,be⟩:∃f:Nat,He T ao=f:=⟨_,rfl⟩;obtain⟨a,cc⟩:∃f:Nat,DU T ao=f:=⟨_,rfl⟩;obtain⟨F,hF⟩:∃F:Int,Hid ((f:Int)=F):=⟨_,rfl⟩;obtain⟨ba,cu⟩:∃F:Int,Hid ((l:Int)=F):=⟨_,rfl⟩;obtain⟨X,cv⟩:∃F:Int,Hid ((a:Int)=F):=⟨_,rfl⟩;have cd:Av T=0:=(CN co.out).1;have cF:f<4096:=by rw[<-ct];exact Am_ cd ao
     have cI:l<4096:=by rw[<-be];exact Apa cd ao
     have cO:a<4096:=by rw[<-cc];exact AbN cd ao
     have dK:Hid ((G8 T ao:Int)=F):=by unfold Hid;rw[ct];exact hF.out
     have dL:Hid ((He T ao:Int)=ba):=by unfold Hid;rw[be];exact cu.out
     have dM:Hid ((DU T ao:Int)=X):=by unfold Hid;rw[cc];exact cv.out
     obtain⟨R,dc⟩:∃R,Hid (decide (a &&& 14≠0)=R):=⟨_,rfl⟩;obtain⟨am,c2⟩:∃am,Hid (Rp f l a=am):=⟨_,rfl⟩;have mR:Hid (Dd T (L.getD k [])=am):=by unfold Hid;rw[jk.out,<-c2.out,<-ct,<-be,<-cc,Au2 cd ao]
     have dN:Hid (EF T ao=R):=by unfold Hid;rw[<-As_ cd ao,<-dc.out,<-cc]
     rw[dN.out]at ad;clear ct be cc dJ;obtain⟨⟨b1,b2,b3,b4,b5,b6⟩,⟨b7,b8,b9,b',ca,cb⟩⟩:=bc.out.box.load;go_wp2_with fail;refine(AkD x T q m c ao F ba X _ bc.out.tab ds.out cs.out dF db dK dL dM).mono ?_;rintro e w3 ⟨rfl,C⟩;replace bc:=U (bc.out.step C);clear C;clear b1 b2 b3 b4 b5 b6 b7 b8 b9 b' ca cb;have df:=F1.new w3 F ba X 113;obtain⟨dO,dP,dQ,dR,dS,dT,dU⟩:=F1.new w3 0 0 0 113;go_upto_region 11 with(fail);clear dO dP dQ dR dS dT dU;have dj:Below w3.heap.size w3 (w3.alloc (.cells #[.int .u64 F,.int .u64 ba,.int .u64 X] 113)):=(Al _ _).alloc (Ac _) _;replace bc:=U (bc.out.step dj);have a9:=U df;clear dj df;generalize (w3.alloc (.cells #[.int .u64 F,.int .u64 ba,.int .u64 X] 113))=dY at bc a9|-;generalize w3.heap.size=dZ at a9|-;cases G with
     | true =>
      rw[Bool.true_or]at ad;by_cases dH:s = -1
      ·have ce:(s == -1)=true:=by simp[dH]
       replace dH:=U dH;obtain⟨cf,cg,ci,cj,cm,cp,cq⟩:=a9.out;go_wp2_with fail;refine(Abq am f l a F ba X _ cF cI cO hF cu cv c2).mono ?_;rintro e dV ⟨rfl,C⟩;replace bc:=U (bc.out.step C);replace a9:=U (a9.out.below C);clear C;clear cf cg ci cj cm cp cq;by_cases en:am=0
       ·have c3:(am !=0)=false:=by simp[en]
        have a':Hid (Hh T L (k+1) s):=AgV bs.out Zd;clear en dH;go_wp2;go_roundw
        case rel=>exact⟨k+1,true,s,O,An,rfl,rfl,ad,a',b0,bc⟩
        case measure=>first|(simp[intOf];done)|(simp[intOf];omega)
       ·have c3:(am !=0)=true:=by simp[en]
        have a':Hid (Hh T L (k+1) (k:Int)):=AgU bs.out dH.out Zd;clear en dH;go_wp2;go_roundw
        case rel=>exact⟨k+1,true,(k:Int),O,An,rfl,rfl,ad,a',b0,bc⟩
        case measure=>first|(simp[intOf];done)|(simp[intOf];omega)
      ·have ce:(s == -1)=false:=by simp[dH]
       have a':Hid (Hh T L (k+1) s):=AgT bs.out dH;clear dH;go_wp2;go_roundw
       case rel=>exact⟨k+1,true,s,O,An,rfl,rfl,ad,a',b0,bc⟩
       case measure=>first|(simp[intOf];done)|(simp[intOf];omega)
     | false =>
      rw[FE]at ad;obtain⟨cf,cg,ci,cj,cm,cp,cq⟩:=a9.out;go_wp2_with fail;refine(AkH R f l a F ba X _ cF cI cO hF cu cv dc).mono ?_;rintro e w6 ⟨rfl,C⟩;replace bc:=U (bc.out.step C);replace a9:=U (a9.out.below C);clear C;clear cf cg ci cj cm cp cq;by_cases dH:s = -1
      ·have ce:(s == -1)=true:=by simp[dH]
       replace dH:=U dH;obtain⟨cf,cg,ci,cj,cm,cp,cq⟩:=a9.out;go_wp2_with fail;refine(Abq am f l a F ba X _ cF cI cO hF cu cv c2).mono ?_;rintro e dV ⟨rfl,C⟩;replace bc:=U (bc.out.step C);replace a9:=U (a9.out.below C);clear C;clear cf cg ci cj cm cp cq;by_cases en:am=0
       ·have c3:(am !=0)=false:=by simp[en]
        have a':Hid (Hh T L (k+1) s):=AgV bs.out Zd;clear en dH;go_wp2;go_roundw
        case rel=>exact⟨k+1,R,s,O,An,rfl,rfl,ad,a',b0,bc⟩
        case measure=>first|(simp[intOf];done)|(simp[intOf];omega)
       ·have c3:(am !=0)=true:=by simp[en]
        have a':Hid (Hh T L (k+1) (k:Int)):=AgU bs.out dH.out Zd;clear en dH;go_wp2;go_roundw
        case rel=>exact⟨k+1,R,(k:Int),O,An,rfl,rfl,ad,a',b0,bc⟩
        case measure=>first|(simp[intOf];done)|(simp[intOf];omega)
      ·have ce:(s == -1)=false:=by simp[dH]
       have a':Hid (Hh T L (k+1) s):=AgT bs.out dH;clear dH;go_wp2;go_roundw
       case rel=>exact⟨k+1,R,s,O,An,rfl,rfl,ad,a',b0,bc⟩
       case measure=>first|(simp[intOf];done)|(simp[intOf];omega)
    ·exact Ax'
   ·obtain rfl:k=n:=by omega
    have dW:Hid (∀l∈L,AB T l=0):=λl cl=>Awl;have dk:L.any (EF T)=G:=by rw[<-cy.out,AO ME]
    have eG:=c8.out;rw[Al5 dW.out (by rw[bb.out];exact bs.out),dk]at eG;clear cy dk cA c9;cases G with
    | false =>
     rw[V (λh=>by cases h.1)]at eG;injection eG with bt bd;subst bt;subst bd;exact UQ
    | true =>
     by_cases dH:s = -1
     ·have ce:(s == -1)=true:=by simp[dH]
      rw[V (λh=>h.2 dH)]at eG;exact AyV
     ·have ce:(s == -1)=false:=by simp[dH]
      rw[N ⟨rfl,dH⟩]at eG;exact AyV
 ·have dq:(bv !=0)=true:=by simp[bx]
  have eG:=c8.out;rw[Al4 (by rw[cx.out];exact bx) (by rw[bb.out];exact c9)]at eG;injection eG with bt bd;subst bt;subst bd;clear bx;exact I6
end Go.Proofs.YtblcoicaeeiojaaGreatDoor
