/- compose: compositionsOf: -/
import Derived.Test.YtblcoicaeeiojaaGreatDoorSOaPmDcmC
set_option linter.all false
set_option maxHeartbeats 16000000
set_option maxRecDepth 100000
open Go.Proofs.Tryz
namespace Go.Proofs.YtblcoicaeeiojaaGreatDoor
open Go.RowKit Go.Maps
def AeF{P:Program}{k:TypeId}{R:Value->Option (DataW Unit × List MemPlace)}{w:World}{b n:Nat}{D:DataW Unit}{p:Addr}{v:Value}(h:w.ownsMap P k R b n D)(c:w.cell? p=some v):p.block≠b:=by
 obtain⟨q,clock,m,_⟩:=h;intro e;unfold World.cell? at c;rw[e,m]at c;simp at c
structure Hl (w0:World) (x:TV) (T:Y) (k:Nat) (w:World):Prop where
 env:Am w0 x T w
 m1:w.ownsMap prog 161 (plainElem prog 3) (w0.heap.size+2) k (Iy T (T.dec.take k))
 m2:w.ownsMap prog 3 (plainElem prog 4) (w0.heap.size+3) k (Jz T (T.dec.take k))
 kn:w.heap[w0.heap.size+4]? = some (.cells #[.map (some (w0.heap.size+2)),.map (some (w0.heap.size+3))] 150 (0,0))
 rs:w.heap[w0.heap.size+1]? = some (.cells #[.map none,.map none] 150 (0,0))
theorem Hl.step{w0 w w':World}{x:TV}{T:Y}{k:Nat}(h:Hl w0 x T k w)(ad:Below w.heap.size w w'):Hl w0 x T k w':=Avv
theorem Hl.cells{w0 w:World}{x:TV}{T:Y}{k:Nat}(h:Hl w0 x T k w):w.cell? ⟨w0.heap.size+4,0,none⟩=some (.map (some (w0.heap.size+2)))/\w.cell? ⟨w0.heap.size+4,1,none⟩=some (.map (some (w0.heap.size+3))):=
 ⟨Es w _ 0 _ _ (0,0) h.kn,Es w _ 1 _ _ (0,0) h.kn⟩
structure Lb (w0:World) (x:TV) (T:Y) (k:Nat) (b:Bool) (w:World):Prop where
 env:Am w0 x T w
 m1:w.ownsMap prog 161 (plainElem prog 3) (w0.heap.size+2) (k+1) (Iy T (T.dec.take (k+1)))
 m2:w.ownsMap prog 3 (plainElem prog 4) (w0.heap.size+3) k (Jz T (T.dec.take k))
 kn:w.heap[w0.heap.size+4]? = some (.cells #[.map (some (w0.heap.size+2)),.map (some (w0.heap.size+3))] 150 (0,0))
 rs:w.heap[w0.heap.size+1]? = some (.cells #[.map none,.map none] 150 (0,0))
theorem Hl.first{w0 w w':World}{x:TV}{T:Y}{k:Nat}(h:Hl w0 x T k w)(c:Ah w0 x T)(e:w'.ownsMap prog 161 (plainElem prog 3) (w0.heap.size+2) (k+1) (Iy T (T.dec.take (k+1))))(b:w.grownBy w' (some (w0.heap.size+2))):Lb w0 x T k true w':=by
 have m:=(EM.1 h.kn).1;have q:=(EM.1 h.rs).1;exact⟨h.env.grown c b O,e,h.m2.kept b J,(b.block _ m J).trans h.kn,(b.block _ q J).trans h.rs⟩
theorem Lb.step{w0 w w':World}{x:TV}{T:Y}{k:Nat}{b:Bool}(h:Lb w0 x T k b w)(ad:Below w.heap.size w w'):Lb w0 x T k b w':=Avv
theorem Lb.second{w0 w w':World}{x:TV}{T:Y}{k:Nat}{b:Bool}(h:Lb w0 x T k b w)(e:Ah w0 x T)(m:w'.ownsMap prog 3 (plainElem prog 4) (w0.heap.size+3) (k+1) (Jz T (T.dec.take (k+1))))(c:w.grownBy w' (some (w0.heap.size+3))):Hl w0 x T (k+1) w':=by
 have q:=(EM.1 h.kn).1;have s:=(EM.1 h.rs).1;exact⟨h.env.grown e c O,h.m1.kept c J,m,(c.block _ q J).trans h.kn,(c.block _ s J).trans h.rs⟩
theorem Lb.cells{w0 w:World}{x:TV}{T:Y}{k:Nat}{b:Bool}(h:Lb w0 x T k b w):w.cell? ⟨w0.heap.size+4,0,none⟩=some (.map (some (w0.heap.size+2)))/\w.cell? ⟨w0.heap.size+4,1,none⟩=some (.map (some (w0.heap.size+3))):=
 ⟨Es w _ 0 _ _ (0,0) h.kn,Es w _ 1 _ _ (0,0) h.kn⟩
theorem Hl.start(w:World)(x:TV)(T:Y)(ba:Ah w x T):Hl w x T 0 (((((w.alloc (.cells (AG x) 26)).alloc (.cells #[.map none,.map none] 150)).alloc (.map #[] 0)).alloc (.map #[] 0)).alloc (.cells #[.map (some (w.heap.size+2)),.map (some (w.heap.size+3))] 150)):=by
 generalize C:w.alloc (.cells (AG x) 26)=h;have F:h.heap.size=w.heap.size+1:=by rw[<-C];simp
 have bb:Am w x T h:=by rw[<-C];exact Am.new ba
 generalize m:h.alloc (.cells #[.map none,.map none] 150)=b;have G:b.heap.size=w.heap.size+2:=by rw[<-m];simp[F]
 have L:Below h.heap.size h b:=by rw[<-m];exact(Al _ _).alloc (Ac _) _
 have r1:b.heap[w.heap.size+1]? = some (.cells #[.map none,.map none] 150 (0,0)):=by rw[<-m,<-F];exact IC _ _
 generalize q:b.alloc (.map #[] 0)=c;have ac:c.heap.size=w.heap.size+3:=by rw[<-q];simp[G]
 have ad:Below b.heap.size b c:=by rw[<-q];exact(Al _ _).alloc (Ac _) _
 have bc:c.ownsMap prog 161 (plainElem (H:=Unit) prog 3) (w.heap.size+2) 0 (.map []):=by rw[<-q,<-G];exact World.ownsMap_made _ _ _ _
 generalize s:c.alloc (.map #[] 0)=e;have bd:e.heap.size=w.heap.size+4:=by rw[<-s];simp[ac]
 have k:Below c.heap.size c e:=by rw[<-s];exact(Al _ _).alloc (Ac _) _
 have be:e.ownsMap prog 3 (plainElem (H:=Unit) prog 4) (w.heap.size+3) 0 (.map []):=by rw[<-s,<-ac];exact World.ownsMap_made _ _ _ _
 generalize am:e.alloc (.cells #[.map (some (w.heap.size+2)),.map (some (w.heap.size+3))] 150)=a9;have A:Below e.heap.size e a9:=by rw[<-am];exact(Al _ _).alloc (Ac _) _
 have r4:a9.heap[w.heap.size+4]? = some (.cells #[.map (some (w.heap.size+2)),.map (some (w.heap.size+3))] 150 (0,0)):=by rw[<-am,<-bd];exact IC _ _
 have a':=ad.trans ((k.trans (A.mono k.size)).mono ad.size);have bl:=k.trans (A.mono k.size);exact⟨bb.step (L.trans (a'.mono L.size)),OO bc bl,OO be A,r4,(a'.block _ O).trans r1⟩
def AsK{w:World}{b:Nat}{x y u v:Value}{t:TypeId}(h:w.heap[b]? = some (.cells #[x,y] t (0,0))):((w.setCell ⟨b,0,none⟩ u).setCell ⟨b,1,none⟩ v).heap[b]? = some (.cells #[u,v] t (0,0)):=by
 have c:=R2 w b 0 #[x,y] t u h;have be:=R2 _ b 1 _ t v c;exact N1
def AjE(T:Y)(w:World)(e:Ending)(w':World):Prop:=∃B b,e=.returned (.agg #[.map (some B),.map (some b)])/\Jh T B b w'/\Below w.heap.size w w'
def AlB(x:TV)(T:Y)(w:World)(b2:Ah w x T)(h:Av T=0):Calls prog 154 #[x.agg] w (AjE T w):=by
 obtain⟨a0,a1,a2,a3,a4,a5,bb,bc,bd,d4,be,bl⟩:=x;obtain⟨pm,bs,cb,cs,dk⟩:=b2.dec;obtain⟨n,b3⟩:∃n,T.dec.length=n:=⟨_,rfl⟩;rw[b3]at cb dk;simp only at cb;subst cb;have ct:=U (Hl.start w ⟨a0,a1,a2,a3,a4,a5,bb,bc,bd,.slice pm n bs,be,bl⟩ T b2);have d5:n<=256:=by rw[<-b3];exact(Oq h).len
 have cu:=U b2;have bt:=U h;have cv:=U b3;have dm:=U cs;have dn:=@run_makeMap prog;simp only[AG]at ct;clear b2 b3 cs h;simp only[TV.agg];go_enter func154,ntmps154;go_wp2;clear dn;go_loopw[12] (λi wr=>∃k:Nat,k<=n/\i=.int .i64 k/\Hid (Hl w ⟨a0,a1,a2,a3,a4,a5,bb,bc,bd,.slice pm n bs,be,bl⟩ T k wr)) (λi _=>n-(intOf i).toNat)
 case atStart=>exact⟨0,Au _,rfl,ct⟩
 case round=>
  obtain⟨k,d6,rfl,F⟩:=hrel;by_cases dq:k<n
  ·have cc:k<T.dec.length:=by rw[cv.out];exact dq
   obtain⟨b,ff,v,rfl,cd,b4,ce,ad,rfl,b5,cf⟩:=(dm.out.below F.out.env.ab) k cc;have cg:=KF T.dec k cc;have b6:=TF T.dec k cc;obtain⟨⟨f,y⟩,cx⟩:∃s,T.dec.getD k Ay=s:=⟨_,rfl⟩;rw[cx]at cd b4 b5 cf cg b6;simp only at cd b4 b5 cf;have bv:=Au7 T (T.dec.take k) (f,y);have bx:=Ats T (T.dec.take k) (f,y);rw[<-cg]at bv bx;simp only at bv bx;have b7:=λci=>VS bt.out b6 ci;have cy:=Aco bt.out (c:=f);have cA:=Ov bt.out b6;simp only at b7 cA;obtain⟨m,cj⟩:∃m,y.length=m:=⟨_,rfl⟩;obtain⟨b0,cl⟩:∃b0,Hid (AV T f=b0):=⟨_,rfl⟩;have cB:b0=true->AA f=true:=λci=>(cy (AbY bt.out (cl.out.trans ci))).2.2;rw[cl.out]at bv bx b7;have cC:Below wr.heap.size wr (wr.alloc (.cells #[.int .i64 f,.slice ce m ad] 73)):=(Al _ _).alloc (Ac _) _;have cm:=U (F.out.step cC);have ds:=U (Gi.new wr f (.slice ce m ad) 73);have dx:=U (BE.alloc b5 (.cells #[.int .i64 f,.slice ce m ad] 73));rw[cj]at b4 cf;have cD:=U cj;have co:=U bv;have cp:=U bx;have cF:=U b7;have cI:=U cB;clear cx cg b6 cC b5 cj bv bx b7 cy cA cB;obtain⟨⟨dy,dz,dE,dF,dG,dH⟩,⟨dJ,dK,dL,dM,dN,dO⟩⟩:=cm.out.env.box.load;go_wp2_with fail;refine(AkV _ T f b0 _ cm.out.env.tab bt.out cl).mono ?_;rintro e w2 ⟨rfl,b8⟩;have G:=U (cm.out.step b8);have dP:=U (ds.out.below b8);have cO:=U (dx.out.below b8);clear b8 dy dz dE dF dG dH dJ dK dL dM dN dO cd b4;cases b0 with
   | false =>
    have L:Hid (Hl w ⟨a0,a1,a2,a3,a4,a5,bb,bc,bd,.slice (some ⟨b,ff,none⟩) n bs,be,bl⟩ T (k+1) w2):=by
     have c2:=co.out;have c3:=cp.out;simp only[U5,if_false]at c2 c3;exact⟨G.out.env,by rw[c2];exact G.out.m1.mono (KY _),by rw[c3];exact G.out.m2.mono (KY _),G.out.kn,G.out.rs⟩
    go_wp2;go_roundw
    case rel=>exact⟨k+1,O,An,L⟩
    case measure=>simp[intOf];omega
   | true =>
    obtain⟨a,q,rfl,c4,c5⟩:=cF.out rfl;obtain rfl:m=2:=cD.out.symm;obtain⟨am,a9,rfl,c6⟩:=cO.out 0 J;obtain⟨d7,d8,cq,b1⟩:=cO.out 1 J;injection cq with cq;injection cq with dQ dR;subst dQ;subst dR;simp only[DI,CS,E_]at c6 b1;obtain⟨dS,b9⟩:=dP.out;obtain⟨b',A⟩:=G.out.cells;have dT:Hid (GF a):=Pf c4;have c7:Hid (GF q):=Pf c5;have dU:Hid (GF f):=Pf (by have:=NN.1 (cI.out rfl);exact⟨this.1,this.2.1⟩);have dV:Hid (Iy T (T.dec.take (k+1))=(Iy T (T.dec.take k)).put (EW [a,q]) (.lit (.int .i64 f))):=by have:=co.out;rw[N rfl]at this;exact this
    have dW:Hid (Jz T (T.dec.take (k+1))=(Jz T (T.dec.take k)).put (.int .i64 q) (.lit (.bool true))):=by have:=cp.out;rw[N rfl]at this;exact this
    have c8:=U (show w2.cell? ⟨wr.heap.size,1,none⟩=some (.slice (some ⟨am,a9,none⟩) 2 ad)/\w2.cell? ⟨am,a9+1,none⟩=some (.int .i64 q) from⟨b9,b1⟩);clear c4 c5 co cp cF cI cD;go_upto_region 6 with(fail);go_still_tail 13,Ax;change wpList _ _ _ _ _ w2.drew;have ac:Below w2.heap.size w2 w2.drew:=Bx _;have L:=U (G.out.step ac);have a':Hid (w2.drew.cell? ⟨wr.heap.size,1,none⟩=some (.slice (some ⟨am,a9,none⟩) 2 ad)/\w2.drew.cell? ⟨am,a9+1,none⟩=some (.int .i64 q)):=c8.out;generalize w2.drew=w3 at L a' ac|-;clear ac dS b9 b' A c6 b1 c8;go_wp2_with (at_mapUpdate;refine Aai _ rfl _ _ _ 147 rfl 161 3 QK underlying147 (plainElem prog 3) (w.heap.size+2) k (Iy T (T.dec.take k)) rfl L.out.m1 BQ _ _ (GX a q) rfl rfl (TR dT.out c7.out) (.lit (.int .i64 f)) [] (plainElem_int underlying3 dU.out) ?_;intro C c9 ca);have c':Hid (Lb w ⟨a0,a1,a2,a3,a4,a5,bb,bc,bd,.slice (some ⟨b,ff,none⟩) n bs,be,bl⟩ T k true C):=L.out.first cu.out (by rw[dV.out];exact c9) ca;have da:Hid (C.cell? ⟨wr.heap.size,1,none⟩=some (.slice (some ⟨am,a9,none⟩) 2 ad)/\C.cell? ⟨am,a9+1,none⟩=some (.int .i64 q)):=by
     have dX:=AeF L.out.m1 a'.out.1;have dY:=AeF L.out.m1 a'.out.2;simp only at dX dY;exact⟨ca.cell a'.out.1 Ae,ca.cell a'.out.2 Ae⟩
    clear c9 ca a';obtain⟨b9,b1⟩:=da.out;obtain⟨b',A⟩:=c'.out.cells;go_upto_region 7 with(fail);go_still_tail 6,Ax;change wpList _ _ _ _ _ C.drew;have ac:Below C.heap.size C C.drew:=Bx _;have cr:=U (c'.out.step ac);generalize C.drew=d9 at cr ac|-;clear ac b9 b' A b1 da;go_wp2_with (at_mapUpdate;refine Aai _ rfl _ _ _ 148 rfl 3 4 An_ underlying148 (plainElem prog 4) (w.heap.size+3) k (Jz T (T.dec.take k)) rfl cr.out.m2 BQ _ _ (.int .i64 q) rfl rfl (keyOf_int_mk underlying3 c7.out) (.lit (.bool true)) [] (plainElem_bool underlying4 true) ?_;intro w6 db dc);have dZ:Hid (Hl w ⟨a0,a1,a2,a3,a4,a5,bb,bc,bd,.slice (some ⟨b,ff,none⟩) n bs,be,bl⟩ T (k+1) w6):=cr.out.second cu.out (by rw[dW.out];exact db) dc;clear db dc;go_wp2;go_roundw
    case rel=>exact⟨k+1,O,An,dZ⟩
    case measure=>simp[intOf];omega
  ·obtain rfl:k=n:=by omega
   have df:Hid (Jh T (w.heap.size+2) (w.heap.size+3) wr):=by
    have ba:=F.out.m1;have dj:=F.out.m2;rw[AO (BW cv.out)]at ba dj;exact⟨⟨_,ba⟩,⟨_,dj⟩⟩
   have d0:Hid (Below w.heap.size w wr):=F.out.env.ab;obtain⟨b',A⟩:=F.out.cells;have fe:=F.out.rs;have d1:=Es wr (w.heap.size+1) 0 _ _ (0,0) fe;have d2:=Es wr (w.heap.size+1) 1 _ _ (0,0) fe;have d_:wr.frozen? ⟨w.heap.size+1,0,none⟩=false:=NW;have d':wr.frozen? ⟨w.heap.size+1,1,none⟩=false:=NW;have d3:=U fe;clear fe;simp only[Aan,Oa,N']at d1 d2;go_wp2;refine FF (R3 rfl _ _ (w.heap.size+1) _ _ _ _ rfl (AsK d3.out) underlying150 rfl Ax) rfl ?_;refine⟨_,_,rfl,⟨?_,?_⟩,?_⟩
   ·obtain⟨A,ba⟩:=df.out.whole;exact⟨A,(ba.setCell J _).setCell J _⟩
   ·obtain⟨A,ba⟩:=df.out.sec;exact⟨A,(ba.setCell J _).setCell J _⟩
   ·exact(d0.out.setCell J _).setCell J _
end Go.Proofs.YtblcoicaeeiojaaGreatDoor
namespace Go.Proofs.YtblcoicaeeiojaaGreatDoor
open Go.RowKit
def AsL{t:IntKind}{w:World}{b ff:Nat}{xs:List Int}(h:BE t w (some ⟨b,ff,none⟩) xs)(k:Nat):BE t w (some ⟨b,ff+k,none⟩) (xs.drop k):=by
 intro j c;have m:k+j<xs.length:=by rw[GK]at c;omega
 obtain⟨C,F,e,q⟩:=h (k+j) m;injection e with e;injection e with s A _;subst s A;refine⟨_,_,rfl,?_⟩;rw[Vo,q];congr 2;simp[List.getD]
def An'{w:World}{B n c:Nat}{p:Option Addr}{xs:List Int}(h:Ak w B (.slice p n c) xs):n<=c:=Mv h rfl
structure L6 (w0:World) (x:TV) (T:Y) (B C kb:Nat) (pD:Option Addr) (D:List Int) (w:World):Prop where
 env:Am w0 x T w
 known:Jh T B C w
 kn:w.heap[kb]? = some (.cells #[.map (some B),.map (some C)] 150 (0,0))
 row:Aq w pD D
theorem L6.step{w0 w w':World}{x:TV}{T:Y}{B c e:Nat}{k:Option Addr}{D:List Int}(h:L6 w0 x T B c e k D w)(b:Below w.heap.size w w'):L6 w0 x T B c e k D w':=
 ⟨h.env.step b,h.known.below b,(b.block _ (EM.1 h.kn).1).trans h.kn,h.row.below b⟩
theorem L6.cells{w0 w:World}{x:TV}{T:Y}{B c b:Nat}{e:Option Addr}{D:List Int}(h:L6 w0 x T B c b e D w):w.cell? ⟨b,0,none⟩=some (.map (some B))/\w.cell? ⟨b,1,none⟩=some (.map (some c)):=
 ⟨Es w _ 0 _ _ (0,0) h.kn,Es w _ 1 _ _ (0,0) h.kn⟩
theorem L6.start{w0 w:World}{x:TV}{T:Y}{B b:Nat}{e:Option Addr}{D:List Int}(h:Am w0 x T w)(k:Jh T B b w)(m:Aq w e D):L6 w0 x T B b w.heap.size e D (w.alloc (.cells #[.map (some B),.map (some b)] 150)):=by
 have c:Below w.heap.size w (w.alloc (.cells #[.map (some B),.map (some b)] 150)):=(Al _ _).alloc (Ac _) _;exact⟨h.step c,k.below c,IC _ _,m.below c⟩
def AcJ{c:Int}(h:AA c=true):GF c:=by
 have:=NN.1 h;exact Pf ⟨this.1,this.2.1⟩
def Aei(x:TV)(T:Y)(p:Option Addr)(cap:Nat)(ao:List Int)(E:Int)(L:List Int)(w:World)(da:Ah w x T)(db:Bi w)(dc:Aq w p ao)(dj:ao.length<=17592186043904)(cr:Hid (Bu T ao=E))(df:Hid (BU T ao=L)):Calls prog 104 #[x.agg,.slice p ao.length cap] w (M0 L E w):=by
 obtain⟨D,eo⟩:∃D,Hid (FQ T ao=D):=⟨_,rfl⟩;have ac:=U (Am.new da);have dk:=U dc;have d2:=U db;have cA:=λW (cC:Ah W x T) cD d3=>ApT x T p cap ao E D W cC cD d3 dj cr eo;obtain⟨n,dm⟩:∃n,ao.length=n:=⟨_,rfl⟩;rw[dm]at dj cA|-;have dq:=U cA;clear da dc db dm cA;simp only[TV.agg];go_enter func104,ntmps104;obtain⟨⟨bd,be,bs,bt,bx,b0⟩,⟨b2,b3,b4,b6,b7,b8⟩⟩:=ac.out.box.load;go_wp2_with fail;refine(dq.out _ ac.out.tab (d2.out.below ac.out.ab) (dk.out.below ac.out.ab)).mono ?_;rintro e w1 ⟨ek,rfl,ds,A⟩;obtain⟨el,en,rfl,dx⟩:=ds.ap;replace ac:=U (ac.out.step A);have cf:=U dx;obtain⟨m,cg⟩:∃m,D.length=m:=⟨_,rfl⟩;have ep:m<=4096:=by rw[<-cg,<-eo.out];exact Xi T ao
 rw[cg];have ei:=U cg;clear ds A dx cg dq bd be bs bt bx b0 b2 b3 b4 b6 b7 b8;by_cases bl:E=0
 ·subst bl;have bv:Hid (Av T=0):=QH cr.out;have fx:Hid (Jq T D=L):=Axd;have d4:Hid (∀y∈D,Dg T y):=by have:=Xj cr.out;rwa[eo.out]at this
  have dy:=U (Oq bv.out);obtain⟨⟨bd,be,bs,bt,bx,b0⟩,⟨b2,b3,b4,b6,b7,b8⟩⟩:=ac.out.box.load;go_wp2_with fail;refine(AlB x T _ ac.out.tab bv.out).mono ?_;rintro e w2 ⟨B,ci,rfl,cF,A⟩;replace ac:=U (ac.out.step A);replace cf:=U (cf.out.below A);have ad:=L6.start ac.out cF cf.out;obtain⟨f5,cj⟩:∃f5,f5=w2.alloc (.cells #[.map (some B),.map (some ci)] 150):=⟨_,rfl⟩;rw[<-cj]at ad;have dz:=U ad;have dE:=U cj;have d5:Hid (f5.heap.size=w2.heap.size+1):=by unfold Hid;rw[cj];simp
  have d6:=OZ m O;clear cF A ad cj ac cf dk bd be bs bt bx b0 b2 b3 b4 b6 b7 b8;go_wp2;clear d6;go_loopw[9,10,32] (λu s i wr=>∃(k:Nat) (k9:Int) (q:List Int),k<=m/\i=.int .i64 k/\s=.int .i64 k9/\Hid (CJ T D k k9 q)/\Hid (Ak wr f5.heap.size u q)/\Hid (Below f5.heap.size f5 wr)) (λ_ _ i _=>m-(intOf i).toNat)
  case atStart=>
   refine⟨0,-1,[],Au _,rfl,rfl,CJ.start T D,?_,?_⟩
   ·have:=Ak.made f5 f5.heap.size m (Ac _) O;rw[d5.out]at this|-;rw[dE.out]at this;simpa[Hid] using this
   ·have:=(Al f5.heap.size f5).alloc (Ac _) (Hs m);unfold Hid;rw[dE.out]at this|-;exact this
  case round=>
   obtain⟨k,k9,q,cF,rfl,rfl,fD,cm,cl⟩:=hrel;have ad:=U (dz.out.step cl.out);by_cases ee:k<m
   ·have dJ:k<D.length:=by rw[ei.out];exact ee
    obtain⟨b,ff,rfl,dF⟩:=ad.out.row k dJ;obtain⟨c,cB⟩:∃c,D.getD k 0=c:=⟨_,rfl⟩;rw[cB]at dF;have iD:Hid (Dg T c):=d4.out c AhO;have cp:=U cB;obtain⟨z,b5⟩:∃z,Hid (Ao T c=z):=⟨_,rfl⟩;obtain⟨jT,hE,rfl,jV⟩:=cm.out.ap;obtain⟨no,co⟩:∃no,q.length=no:=⟨_,rfl⟩;rw[co]at cm|-;have eq:no<=4096:=by have:=fD.out.len;omega
    have er:=An' cm.out;have cI:=cm.out.row;have eV:=U co;have cO:=fD.out.cS;rw[co]at cO cI;have es:=U cI;have dG:=U jV;clear cB co jV cI;obtain⟨⟨bd,be,bs,bt,bx,b0⟩,⟨b2,b3,b4,b6,b7,b8⟩⟩:=ad.out.env.box.load;go_wp2_with fail;refine(Hn _ T c z _ ad.out.env.tab dy.out.ai b5).mono ?_;rintro e w3 ⟨rfl,A⟩;have b9:=U (ad.out.step A);have b':=U (cm.out.below A);have c2:=U (dG.out.below A);have bb:=U (cl.out.trans (A.mono cl.out.size));clear A dF bd be bs bt bx b0 b2 b3 b4 b6 b7 b8 cm cl ad dG;by_cases ca:k9<0
    ·obtain rfl:k9 = -1:=by omega
     have fS:Hid (DF T q (-1) c=none):=AfD O;have d7:decide ((0:Int)<=-1)=false:=Aw;clear ca cO;go_upto_region 11 with(fail);go_quiet (fail);generalize fE:World.drewN w3 _=W;have cq:Below w3.heap.size w3 W:=Rx;have cb:=U (b9.out.step cq);have C:=U (b'.out.below cq);have b1:=U (bb.out.trans (cq.mono bb.out.size));clear fE cq b9 b' c2 bb;by_cases eI:z=0
     ·have cc:(z==0)=true:=by simp[eI]
      have f4:Hid (CJ T D (k+1) (no:Int) (q++[c])):=Ajo;have F:=U (CQ W #[.int .i64 c] [c] 3 rfl);have jm:Hid (Ak (W.alloc (.cells #[.int .i64 c] 3)) f5.heap.size (.slice jT no hE) q):=C.out.alloc _;have eJ:f5.heap.size<=(W.alloc (.cells #[.int .i64 c] 3)).heap.size:=RS;have kQ:=U (b1.out.alloc b1.out.size (.cells #[.int .i64 c] 3));clear eI;go_wp2_with (at_builtin;(refine De _ _ rfl rfl f5.heap.size (.slice jT no hE) q rfl jm.out (some ⟨W.heap.size,0,none⟩) 1 1 [c] rfl rfl F.out Rr eJ ?_);intro v4 eC iC e8);exact Ait
     ·have cc:(z==0)=false:=by simp[eI]
      have f4:Hid (CJ T D (k+1) (-1) (q++[c])):=fD.out.mark Pk cp.out iD.out.1 fS.out ZT;have F:=U (CQ W #[.int .i64 c] [c] 3 rfl);have jm:Hid (Ak (W.alloc (.cells #[.int .i64 c] 3)) f5.heap.size (.slice jT no hE) q):=C.out.alloc _;have eJ:f5.heap.size<=(W.alloc (.cells #[.int .i64 c] 3)).heap.size:=RS;have kQ:=U (b1.out.alloc b1.out.size (.cells #[.int .i64 c] 3));clear eI;go_wp2_with (at_builtin;(refine De _ _ rfl rfl f5.heap.size (.slice jT no hE) q rfl jm.out (some ⟨W.heap.size,0,none⟩) 1 1 [c] rfl rfl F.out Rr eJ ?_);intro v4 eC iC e8);exact Ait
    ·obtain⟨a,rfl⟩:∃a:Nat,k9=a:=⟨k9.toNat,O⟩;have em:a<no:=O;have d7:decide ((0:Int)<=(a:Int))=true:=At O;obtain⟨go,et,dH,ew,ex,dK,dL⟩:=b'.out.row RA;rw[eV.out]at dH;injection dH with d8 _ d9;subst d8 d9;obtain⟨M,dn⟩:∃M,q.drop (a+1)=M:=⟨_,rfl⟩;obtain⟨am,cs⟩:∃s,q.getD a 0=s:=⟨_,rfl⟩;have dM:=dK a Ah_;rw[cs]at dM;have dN:=dL a;have dO:=U dM;have ey:=U dN;have d_ : Hid (AA am = true):=fD.out.bk am (by rw [<- cs]; have : a < q.length:=(by rw [eV.out]; exact em);simp[this]);have c3:M.length=no-(a+1):=by rw[<-dn,GK,eV.out]
     have c4:Hid (E4 T M c->DF T q (a:Int) c=Db T am c):=λh=>by
      have:=AfE (T:=T) (O:=q) (k9:=(a:Int)) (c:=c) O Ze;rw[this,Ef,cs]
     have c5:Hid (¬E4 T M c->DF T q (a:Int) c=none):=λh=>AfC O Ze;obtain⟨a9,ct⟩:∃a9,Hid (decide (M≠[]/\z<=Ao T (M.getD (M.length-1) 0))=a9):=⟨_,rfl⟩;have c6:Hid (a9=false->E4 T M c):=λh=>by
      have A:=ct.out;rw[h,L3]at A;rw[Ut,b5.out];by_cases e:M=[]
      ·exact .inl e
      ·right;by_cases d':z<=Ao T (M.getD (M.length-1) 0)
       ·exact absurd ⟨e,d'⟩ A
       ·omega
     have c7:Hid (a9=true->¬E4 T M c):=λh=>by
      have A:=ct.out;rw[h,A4]at A;rw[Ut,b5.out];intro e;rcases e with e|e
      ·exact A.1 e
      ·omega
     obtain⟨j,dP⟩:∃j,a+1=j:=⟨_,rfl⟩;rw[dP]at dn c3;obtain⟨cu,dQ⟩:∃cu,(if hE=j then some (⟨go,0,none⟩:Addr)else some ⟨go,j,none⟩)=cu:=⟨_,rfl⟩;have dR:Aq w3 cu M:=by
      rw[<-dQ,<-dn];split
      ·intro i dI;rw[GK,eV.out]at dI;omega
      ·have:=AsL c2.out j;rwa[BY]at this
     have dS:=U dR;have dT:=U c3;have ea:(a:Int)+1=(j:Int):=O;have eb:IntKind.i64.wrap ((a:Int)+1)=(j:Int):=H_;have ec:IntKind.i64.wrap (j:Int)=(j:Int):=AT _ O;have ed:(j:Int)<=(no:Int):=O;have ef:j<=no:=O;have ez:(no:Int)<=(hE:Int):=O;have eA:(a:Int)<(no:Int):=O;have dU:Hid (no-j<=17592186043904):=Hj;have dV:=λW (cC:Ah W x T) cD=>AkC x T cu (no-j) (hE-j) M z a9 W cC dy.out.ai cD dT.out dU.out ct;have dW:=U dV;clear dn cs c3 dR ca cO dK dL dP c2 dV;go_upto_region 11 with(fail);go_cut[50] (λv c8=>v=.bool (!a9)/\Hid (Below w3.heap.size w3 c8))
     case first=>
      have dX:=b9.out.env.step (Bx w3);have c9:=U dX;clear dX;go_region_held3 (J_ w.heap.size x)
       (first
        | exact c9.out.box.flat
        | exact(c9.out.step dY).box.flat)
       (first
        | (go_at_call 156;(with_reducible refine(dW.out _ c9.out.tab (dS.out.below (Bx w3))).mono ?_);rintro e eC ⟨rfl,dY⟩)
        | fail)
      all_goals
       have c':=(Bx w3).trans (dY.mono (Bx w3).size)
       try (go_wp2_with fail)
       go_meet;exact⟨by cases a9<;>rfl,c'⟩
     case rest=>
      obtain⟨rfl,cd⟩:=hcut;generalize wc=W at cd|-;have cb:=U (b9.out.step cd.out);have C:=U (b'.out.below cd.out);have b1:=U (bb.out.trans (cd.out.mono bb.out.size));clear ea eb ec ed ef dS dT dU dW b9 b' bb ct dQ;cases a9 with
      | true =>
       have fS:Hid (DF T q (a:Int) c=none):=c5.out (c7.out rfl);clear c6 c7 c4 c5;by_cases eI:z=0
       ·have cc:(z==0)=true:=by simp[eI]
        have f4:Hid (CJ T D (k+1) (no:Int) (q++[c])):=Ajo;have F:=U (CQ W #[.int .i64 c] [c] 3 rfl);have jm:Hid (Ak (W.alloc (.cells #[.int .i64 c] 3)) f5.heap.size (.slice (some ⟨go,0,none⟩) no hE) q):=C.out.alloc _;have eJ:f5.heap.size<=(W.alloc (.cells #[.int .i64 c] 3)).heap.size:=RS;have kQ:=U (b1.out.alloc b1.out.size (.cells #[.int .i64 c] 3));clear eI;go_wp2_with (at_builtin;(refine De _ _ rfl rfl f5.heap.size (.slice (some ⟨go,0,none⟩) no hE) q rfl jm.out (some ⟨W.heap.size,0,none⟩) 1 1 [c] rfl rfl F.out Rr eJ ?_);intro v4 eC iC e8);exact Ait
       ·have cc:(z==0)=false:=by simp[eI]
        have f4:Hid (CJ T D (k+1) (a:Int) (q++[c])):=fD.out.mark Pk cp.out iD.out.1 fS.out ZT;have F:=U (CQ W #[.int .i64 c] [c] 3 rfl);have jm:Hid (Ak (W.alloc (.cells #[.int .i64 c] 3)) f5.heap.size (.slice (some ⟨go,0,none⟩) no hE) q):=C.out.alloc _;have eJ:f5.heap.size<=(W.alloc (.cells #[.int .i64 c] 3)).heap.size:=RS;have kQ:=U (b1.out.alloc b1.out.size (.cells #[.int .i64 c] 3));clear eI;go_wp2_with (at_builtin;(refine De _ _ rfl rfl f5.heap.size (.slice (some ⟨go,0,none⟩) no hE) q rfl jm.out (some ⟨W.heap.size,0,none⟩) 1 1 [c] rfl rfl F.out Rr eJ ?_);intro v4 eC iC e8);exact Ait
      | false =>
       have lm:Hid (DF T q (a:Int) c=Db T am c):=c4.out (c6.out rfl);obtain⟨⟨a',o⟩,kc⟩:∃y,Hid (IX T am c=y):=⟨_,rfl⟩;obtain⟨cv,cx⟩:=cb.out.cells;have dZ:=λd0 (h:Jh T B ci d0)=>AoI T B ci am c a' o d0 h bv.out (AcJ d_.out) (AcJ iD.out.1) kc;have eg:=U dZ;clear dZ;have bc:W.cell? ⟨go,a,none⟩=some (.int .i64 am):=(cd.out.cell (p:=⟨go,a,none⟩) (AN _ _ dO.out)).trans dO.out;clear c6 c7 c4 c5;go_upto_region 12 with(fail);go_cut[14,15] (λu v c8=>u=.int .i64 a'/\v=.bool o/\Hid (Below W.heap.size W c8))
       case first=>
        go_region_held3 (λw'=>w'.cell? ⟨w2.heap.size,0,none⟩=some (.map (some B))/\w'.cell? ⟨w2.heap.size,1,none⟩=some (.map (some ci))/\w'.cell? ⟨go,a,none⟩=some (.int .i64 am))
         (first
          | exact⟨cv,cx,bc⟩
          | exact⟨(cy.cell (p:=⟨w2.heap.size,0,none⟩) (AN _ _ cv)).trans cv,(cy.cell (p:=⟨w2.heap.size,1,none⟩) (AN _ _ cx)).trans cx,(cy.cell (p:=⟨go,a,none⟩) (AN _ _ bc)).trans bc⟩)
         (first
          | (go_at_call 157;(with_reducible refine(eg.out _ (cb.out.known.below (Bx W))).mono ?_);rintro e eB ⟨rfl,cy⟩)
          | fail)
        all_goals
         have c':=(Bx W).trans (cy.mono (Bx W).size)
         try (go_wp2_with fail)
         go_meet;exact⟨rfl,rfl,c'⟩
       case rest=>
        obtain⟨rfl,rfl,ce⟩:=hcut;generalize wc=G at ce|-;replace cb:=U (cb.out.step ce.out);replace C:=U (C.out.below ce.out);replace b1:=U (b1.out.trans (ce.out.mono b1.out.size));have eh:Hid (G.cell? ⟨go,a,none⟩=some (.int .i64 am)):=(ce.out.cell (p:=⟨go,a,none⟩) (AN _ _ bc)).trans bc;clear cv cx bc;cases o with
        | true =>
         have fS:Hid (DF T q (a:Int) c=some a'):=Axs;have f4:Hid (CJ T D (k+1) (a:Int) (q.set a a')):=Ay4;have ca:=C.out.set eV.out a a';have ej:=U ca;have hN:Hid (Below f5.heap.size f5 (G.setCell ⟨go,a,none⟩ (.int .i64 a'))):=b1.out.grown (GU G go a (.int .i64 a')) b1.out.size (λk e=>by injection e with e;omega);have eD:=eh.out;obtain⟨eE,eF,ba,_,_,_,d1⟩:=C.out.row RA;injection ba with ba _ _;injection ba with ba;injection ba with ba _ _;subst ba;have dN:=d1 a;clear ca d1;go_wp2;go_roundw
         case rel=>exact⟨k+1,_,_,O,An,rfl,f4,ej,hN⟩
         case measure=>simp[intOf];omega
        | false =>
         have fS:Hid (DF T q (a:Int) c=none):=Axe;by_cases eI:z=0
         ·have cc:(z==0)=true:=by simp[eI]
          have f4:Hid (CJ T D (k+1) (no:Int) (q++[c])):=Ajo;have F:=U (CQ G #[.int .i64 c] [c] 3 rfl);have jm:Hid (Ak (G.alloc (.cells #[.int .i64 c] 3)) f5.heap.size (.slice (some ⟨go,0,none⟩) no hE) q):=C.out.alloc _;have eJ:f5.heap.size<=(G.alloc (.cells #[.int .i64 c] 3)).heap.size:=RS;have kQ:=U (b1.out.alloc b1.out.size (.cells #[.int .i64 c] 3));clear eI;go_wp2_with (at_builtin;(refine De _ _ rfl rfl f5.heap.size (.slice (some ⟨go,0,none⟩) no hE) q rfl jm.out (some ⟨G.heap.size,0,none⟩) 1 1 [c] rfl rfl F.out Rr eJ ?_);intro v4 eC iC e8);exact Ait
         ·have cc:(z==0)=false:=by simp[eI]
          have f4:Hid (CJ T D (k+1) (a:Int) (q++[c])):=fD.out.mark Pk cp.out iD.out.1 fS.out ZT;have F:=U (CQ G #[.int .i64 c] [c] 3 rfl);have jm:Hid (Ak (G.alloc (.cells #[.int .i64 c] 3)) f5.heap.size (.slice (some ⟨go,0,none⟩) no hE) q):=C.out.alloc _;have eJ:f5.heap.size<=(G.alloc (.cells #[.int .i64 c] 3)).heap.size:=RS;have kQ:=U (b1.out.alloc b1.out.size (.cells #[.int .i64 c] 3));clear eI;go_wp2_with (at_builtin;(refine De _ _ rfl rfl f5.heap.size (.slice (some ⟨go,0,none⟩) no hE) q rfl jm.out (some ⟨G.heap.size,0,none⟩) 1 1 [c] rfl rfl F.out Rr eJ ?_);intro v4 eC iC e8);exact Ait
   ·obtain rfl:k=m:=by omega
    have lk:Hid (q=L):=AvX;have fO:Hid (Below w.heap.size w wr):=ad.out.env.ab;have ll:Hid (w.heap.size<=f5.heap.size):=dz.out.env.ab.size;exact Avp
 ·exact AyP
end Go.Proofs.YtblcoicaeeiojaaGreatDoor
