/- compose: compositionsOf: -/
import Derived.Test.YtblcoicaeeiojaaGreatDoorSOaPmDcmC
set_option linter.all false
set_option maxHeartbeats 16000000
set_option maxRecDepth 100000
open Go.Proofs.Tryz
namespace Go.Proofs.YtblcoicaeeiojaaGreatDoor
open Go.RowKit Go.Maps
def AeF{P:Program}{k:TypeId}{R:Value->Option (DataW Unit × List MemPlace)}{w:World}{b n:Nat}{D:DataW Unit}{p:Addr}{v:Value}(h:w.ownsMap P k R b n D)(c:w.cell? p=some v):p.block≠b:=by
 obtain⟨q,clock,m,_⟩:=h;intro e;unfold World.cell? at c;rw[e,m]at c;simp at c
structure Hl (w0:World) (x:TV) (T:Y) (k:Nat) (w:World):Prop where
 env:Am w0 x T w
 m1:w.ownsMap prog 161 (plainElem prog 3) (w0.heap.size+2) k (Iy T (T.dec.take k))
 m2:w.ownsMap prog 3 (plainElem prog 4) (w0.heap.size+3) k (Jz T (T.dec.take k))
 kn:w.heap[w0.heap.size+4]? = some (.cells #[.map (some (w0.heap.size+2)),.map (some (w0.heap.size+3))] 150 (0,0))
 rs:w.heap[w0.heap.size+1]? = some (.cells #[.map none,.map none] 150 (0,0))
theorem Hl.step{w0 w w':World}{x:TV}{T:Y}{k:Nat}(h:Hl w0 x T k w)(ad:Below w.heap.size w w'):Hl w0 x T k w':=Avv
theorem Hl.cells{w0 w:World}{x:TV}{T:Y}{k:Nat}(h:Hl w0 x T k w):w.cell? ⟨w0.heap.size+4,0,none⟩=some (.map (some (w0.heap.size+2)))/\w.cell? ⟨w0.heap.size+4,1,none⟩=some (.map (some (w0.heap.size+3))):=
 ⟨Es w _ 0 _ _ (0,0) h.kn,Es w _ 1 _ _ (0,0) h.kn⟩
structure Lb (w0:World) (x:TV) (T:Y) (k:Nat) (b:Bool) (w:World):Prop where
 env:Am w0 x T w
 m1:w.ownsMap prog 161 (plainElem prog 3) (w0.heap.size+2) (k+1) (Iy T (T.dec.take (k+1)))
 m2:w.ownsMap prog 3 (plainElem prog 4) (w0.heap.size+3) k (Jz T (T.dec.take k))
 kn:w.heap[w0.heap.size+4]? = some (.cells #[.map (some (w0.heap.size+2)),.map (some (w0.heap.size+3))] 150 (0,0))
 rs:w.heap[w0.heap.size+1]? = some (.cells #[.map none,.map none] 150 (0,0))
theorem Hl.first{w0 w w':World}{x:TV}{T:Y}{k:Nat}(h:Hl w0 x T k w)(c:Ah w0 x T)(e:w'.ownsMap prog 161 (plainElem prog 3) (w0.heap.size+2) (k+1) (Iy T (T.dec.take (k+1))))(b:w.grownBy w' (some (w0.heap.size+2))):Lb w0 x T k true w':=by
 have m:=(EM.1 h.kn).1;have q:=(EM.1 h.rs).1;exact⟨h.env.grown c b O,e,h.m2.kept b J,(b.block _ m J).trans h.kn,(b.block _ q J).trans h.rs⟩
theorem Lb.step{w0 w w':World}{x:TV}{T:Y}{k:Nat}{b:Bool}(h:Lb w0 x T k b w)(ad:Below w.heap.size w w'):Lb w0 x T k b w':=Avv
theorem Lb.second{w0 w w':World}{x:TV}{T:Y}{k:Nat}{b:Bool}(h:Lb w0 x T k b w)(e:Ah w0 x T)(m:w'.ownsMap prog 3 (plainElem prog 4) (w0.heap.size+3) (k+1) (Jz T (T.dec.take (k+1))))(c:w.grownBy w' (some (w0.heap.size+3))):Hl w0 x T (k+1) w':=by
 have q:=(EM.1 h.kn).1;have s:=(EM.1 h.rs).1;exact⟨h.env.grown e c O,h.m1.kept c J,m,(c.block _ q J).trans h.kn,(c.block _ s J).trans h.rs⟩
theorem Lb.cells{w0 w:World}{x:TV}{T:Y}{k:Nat}{b:Bool}(h:Lb w0 x T k b w):w.cell? ⟨w0.heap.size+4,0,none⟩=some (.map (some (w0.heap.size+2)))/\w.cell? ⟨w0.heap.size+4,1,none⟩=some (.map (some (w0.heap.size+3))):=
 ⟨Es w _ 0 _ _ (0,0) h.kn,Es w _ 1 _ _ (0,0) h.kn⟩
theorem Hl.start(w:World)(x:TV)(T:Y)(ba:Ah w x T):Hl w x T 0 (((((w.alloc (.cells (AG x) 26)).alloc (.cells #[.map none,.map none] 150)).alloc (.map #[] 0)).alloc (.map #[] 0)).alloc (.cells #[.map (some (w.heap.size+2)),.map (some (w.heap.size+3))] 150)):=by
 generalize C:w.alloc (.cells (AG x) 26)=h;have F:h.heap.size=w.heap.size+1:=by rw[<-C];simp
 have bb:Am w x T h:=by rw[<-C];exact Am.new ba
 generalize m:h.alloc (.cells #[.map none,.map none] 150)=b;have G:b.heap.size=w.heap.size+2:=by rw[<-m];simp[F]
 have L:Below h.heap.size h b:=by rw[<-m];exact(Al _ _).alloc (Ac _) _
 have r1:b.heap[w.heap.size+1]? = some (.cells #[.map none,.map none] 150 (0,0)):=by rw[<-m,<-F];exact IC _ _
 generalize q:b.alloc (.map #[] 0)=c;have ac:c.heap.size=w.heap.size+3:=by rw[<-q];simp[G]
 have ad:Below b.heap.size b c:=by rw[<-q];exact(Al _ _).alloc (Ac _) _
 have bc:c.ownsMap prog 161 (plainElem (H:=Unit) prog 3) (w.heap.size+2) 0 (.map []):=by rw[<-q,<-G];exact World.ownsMap_made _ _ _ _
 generalize s:c.alloc (.map #[] 0)=e;have bd:e.heap.size=w.heap.size+4:=by rw[<-s];simp[ac]
 have k:Below c.heap.size c e:=by rw[<-s];exact(Al _ _).alloc (Ac _) _
 have be:e.ownsMap prog 3 (plainElem (H:=Unit) prog 4) (w.heap.size+3) 0 (.map []):=by rw[<-s,<-ac];exact World.ownsMap_made _ _ _ _
 generalize am:e.alloc (.cells #[.map (some (w.heap.size+2)),.map (some (w.heap.size+3))] 150)=a9;have A:Below e.heap.size e a9:=by rw[<-am];exact(Al _ _).alloc (Ac _) _
 have r4:a9.heap[w.heap.size+4]? = some (.cells #[.map (some (w.heap.size+2)),.map (some (w.heap.size+3))] 150 (0,0)):=by rw[<-am,<-bd];exact IC _ _
 have a':=ad.trans ((k.trans (A.mono k.size)).mono ad.size);have bl:=k.trans (A.mono k.size);exact⟨bb.step (L.trans (a'.mono L.size)),OO bc bl,OO be A,r4,(a'.block _ O).trans r1⟩
def AsK{w:World}{b:Nat}{x y u v:Value}{t:TypeId}(h:w.heap[b]? = some (.cells #[x,y] t (0,0))):((w.setCell ⟨b,0,none⟩ u).setCell ⟨b,1,none⟩ v).heap[b]? = some (.cells #[u,v] t (0,0)):=by
 have c:=R2 w b 0 #[x,y] t u h;have be:=R2 _ b 1 _ t v c;exact N1
def AjE(T:Y)(w:World)(e:Ending)(w':World):Prop:=∃B b,e=.returned (.agg #[.map (some B),.map (some b)])/\Jh T B b w'/\Below w.heap.size w w'
def AlB(x:TV)(T:Y)(w:World)(b2:Ah w x T)(h:Av T=0):Calls prog 154 #[x.agg] w (AjE T w):=by
 obtain⟨a0,a1,a2,a3,a4,a5,bb,bc,bd,d4,be,bl⟩:=x;obtain⟨pm,bs,cb,cs,dk⟩:=b2.dec;obtain⟨n,b3⟩:∃n,T.dec.length=n:=⟨_,rfl⟩;rw[b3]at cb dk;simp only at cb;subst cb;have ct:=U (Hl.start w ⟨a0,a1,a2,a3,a4,a5,bb,bc,bd,.slice pm n bs,be,bl⟩ T b2);have d5:n<=256:=by rw[<-b3];exact(Oq h).len
 have cu:=U b2;have bt:=U h;have cv:=U b3;have dm:=U cs;have dn:=@run_makeMap prog;simp only[AG]at ct;clear b2 b3 cs h;simp only[TV.agg];go_enter func154,ntmps154;go_wp2;clear dn;go_loopw[12] (λi wr=>∃k:Nat,k<=n/\i=.int .i64 k/\Hid (Hl w ⟨a0,a1,a2,a3,a4,a5,bb,bc,bd,.slice pm n bs,be,bl⟩ T k wr)) (λi _=>n-(intOf i).toNat)
 case atStart=>exact⟨0,Au _,rfl,ct⟩
 case round=>
  obtain⟨k,d6,rfl,F⟩:=hrel;by_cases dq:k<n
  ·have cc:k<T.dec.length:=by rw[cv.out];exact dq
   obtain⟨b,ff,v,rfl,cd,b4,ce,ad,rfl,b5,cf⟩:=(dm.out.below F.out.env.ab) k cc;have cg:=KF T.dec k cc;have b6:=TF T.dec k cc;obtain⟨⟨f,y⟩,cx⟩:∃s,T.dec.getD k Ay=s:=⟨_,rfl⟩;rw[cx]at cd b4 b5 cf cg b6;simp only at cd b4 b5 cf;have bv:=Au7 T (T.dec.take k) (f,y);have bx:=Ats T (T.dec.take k) (f,y);rw[<-cg]at bv bx;simp only at bv bx;have b7:=λci=>VS bt.out b6 ci;have cy:=Aco bt.out (c:=f);have cA:=Ov bt.out b6;simp only at b7 cA;obtain⟨m,cj⟩:∃m,y.length=m:=⟨_,rfl⟩;obtain⟨b0,cl⟩:∃b0,Hid (AV T f=b0):=⟨_,rfl⟩;have cB:b0=true->AA f=true:=λci=>(cy (AbY bt.out (cl.out.trans ci))).2.2;rw[cl.out]at bv bx b7;have cC:Below wr.heap.size wr (wr.alloc (.cells #[.int .i64 f,.slice ce m ad] 73)):=(Al _ _).alloc (Ac _) _;have cm:=U (F.out.step cC);have ds:=U (Gi.new wr f (.slice ce m ad) 73);have dx:=U (BE.alloc b5 (.cells #[.int .i64 f,.slice ce m ad] 73));rw[cj]at b4 cf;have cD:=U cj;have co:=U bv;have cp:=U bx;have cF:=U b7;have cI:=U cB;clear cx cg b6 cC b5 cj bv bx b7 cy cA cB;obtain⟨⟨dy,dz,dE,dF,dG,dH⟩,⟨dJ,dK,dL,dM,dN,dO⟩⟩:=cm.out.env.box.load;go_wp2_with fail;refine(AkV _ T f b0 _ cm.out.env.tab bt.out cl).mono ?_;rintro e w2 ⟨rfl,b8⟩;have G:=U (cm.out.step b8);have dP:=U (ds.out.below b8);have cO:=U (dx.out.below b8);clear b8 dy dz dE dF dG dH dJ dK dL dM dN dO cd b4;cases b0 with
   | false =>
    have L:Hid (Hl w ⟨a0,a1,a2,a3,a4,a5,bb,bc,bd,.slice (some ⟨b,ff,none⟩) n bs,be,bl⟩ T (k+1) w2):=by
     have c2:=co.out;have c3:=cp.out;simp only[U5,if_false]at c2 c3;exact⟨G.out.env,by rw[c2];exact G.out.m1.mono (KY _),by rw[c3];exact G.out.m2.mono (KY _),G.out.kn,G.out.rs⟩
    go_wp2;go_roundw
    case rel=>exact⟨k+1,O,An,L⟩
    case measure=>simp[intOf];omega
   | true =>
    obtain⟨a,q,rfl,c4,c5⟩:=cF.out rfl;obtain rfl:m=2:=cD.out.symm;obtain⟨am,a9,rfl,c6⟩:=cO.out 0 J;obtain⟨d7,d8,cq,b1⟩:=cO.out 1 J;injection cq with cq;injection cq with dQ dR;subst dQ;subst dR;simp only[DI,CS,E_]at c6 b1;obtain⟨dS,b9⟩:=dP.out;obtain⟨b',A⟩:=G.out.cells;have dT:Hid (GF a):=Pf c4;have c7:Hid (GF q):=Pf c5;have dU:Hid (GF f):=Pf (by have:=NN.1 (cI.out rfl);exact⟨this.1,this.2.1⟩);have dV:Hid (Iy T (T.dec.take (k+1))=(Iy T (T.dec.take k)).put (EW [a,q]) (.lit (.int .i64 f))):=by have:=co.out;rw[N rfl]at this;exact this
    have dW:Hid (Jz T (T.dec.take (k+1))=(Jz T (T.dec.take k)).put (.int .i64 q) (.lit (.bool true))):=by have:=cp.out;rw[N rfl]at this;exact this
    have c8:=U (show w2.cell? ⟨wr.heap.size,1,none⟩=some (.slice (some ⟨am,a9,none⟩) 2 ad)/\w2.cell? ⟨am,a9+1,none⟩=some (.int .i64 q) from⟨b9,b1⟩);clear c4 c5 co cp cF cI cD;go_upto_region 6 with(fail);go_still_tail 13,Ax;change wpList _ _ _ _ _ w2.drew;have ac:Below w2.heap.size w2 w2.drew:=Bx _;have L:=U (G.out.step ac);have a':Hid (w2.drew.cell? ⟨wr.heap.size,1,none⟩=some (.slice (some ⟨am,a9,none⟩) 2 ad)/\w2.drew.cell? ⟨am,a9+1,none⟩=some (.int .i64 q)):=c8.out;generalize w2.drew=w3 at L a' ac|-;clear ac dS b9 b' A c6 b1 c8;go_wp2_with (at_mapUpdate;refine Aai _ rfl _ _ _ 147 rfl 161 3 QK underlying147 (plainElem prog 3) (w.heap.size+2) k (Iy T (T.dec.take k)) rfl L.out.m1 BQ _ _ (GX a q) rfl rfl (TR dT.out c7.out) (.lit (.int .i64 f)) [] (plainElem_int underlying3 dU.out) ?_;intro C c9 ca);have c':Hid (Lb w ⟨a0,a1,a2,a3,a4,a5,bb,bc,bd,.slice (some ⟨b,ff,none⟩) n bs,be,bl⟩ T k true C):=L.out.first cu.out (by rw[dV.out];exact c9) ca;have da:Hid (C.cell? ⟨wr.heap.size,1,none⟩=some (.slice (some ⟨am,a9,none⟩) 2 ad)/\C.cell? ⟨am,a9+1,none⟩=some (.int .i64 q)):=by
     have dX:=AeF L.out.m1 a'.out.1;have dY:=AeF L.out.m1 a'.out.2;simp only at dX dY;exact⟨ca.cell a'.out.1 Ae,ca.cell a'.out.2 Ae⟩
    clear c9 ca a';obtain⟨b9,b1⟩:=da.out;obtain⟨b',A⟩:=c'.out.cells;go_upto_region 7 with(fail);go_still_tail 6,Ax;change wpList _ _ _ _ _ C.drew;have ac:Below C.heap.size C C.drew:=Bx _;have cr:=U (c'.out.step ac);generalize C.drew=d9 at cr ac|-;clear ac b9 b' A b1 da;go_wp2_with (at_mapUpdate;refine Aai _ rfl _ _ _ 148 rfl 3 4 An_ underlying148 (plainElem prog 4) (w.heap.size+3) k (Jz T (T.dec.take k)) rfl cr.out.m2 BQ _ _ (.int .i64 q) rfl rfl (keyOf_int_mk underlying3 c7.out) (.lit (.bool true)) [] (plainElem_bool underlying4 true) ?_;intro w6 db dc);have dZ:Hid (Hl w ⟨a0,a1,a2,a3,a4,a5,bb,bc,bd,.slice (some ⟨b,ff,none⟩) n bs,be,bl⟩ T (k+1) w6):=cr.out.second cu.out (by rw[dW.out];exact db) dc;clear db dc;go_wp2;go_roundw
    case rel=>exact⟨k+1,O,An,dZ⟩
    case measure=>simp[intOf];omega
  ·obtain rfl:k=n:=by omega
   have df:Hid (Jh T (w.heap.size+2) (w.heap.size+3) wr):=by
    have ba:=F.out.m1;have dj:=F.out.m2;rw[AO (BW cv.out)]at ba dj;exact⟨⟨_,ba⟩,⟨_,dj⟩⟩
   have d0:Hid (Below w.heap.size w wr):=F.out.env.ab;obtain⟨b',A⟩:=F.out.cells;have fe:=F.out.rs;have d1:=Es wr (w.heap.size+1) 0 _ _ (0,0) fe;have d2:=Es wr (w.heap.size+1) 1 _ _ (0,0) fe;have d_:wr.frozen? ⟨w.heap.size+1,0,none⟩=false:=NW;have d':wr.frozen? ⟨w.heap.size+1,1,none⟩=false:=NW;have d3:=U fe;clear fe;simp only[Aan,Oa,N']at d1 d2;go_wp2;refine FF (R3 rfl _ _ (w.heap.size+1) _ _ _ _ rfl (AsK d3.out) underlying150 rfl Ax) rfl ?_;refine⟨_,_,rfl,⟨?_,?_⟩,?_⟩
   ·obtain⟨A,ba⟩:=df.out.whole;exact⟨A,(ba.setCell J _).setCell J _⟩
   ·obtain⟨A,ba⟩:=df.out.sec;exact⟨A,(ba.setCell J _).setCell J _⟩
   ·exact(d0.out.setCell J _).setCell J _
end Go.Proofs.YtblcoicaeeiojaaGreatDoor
namespace Go.Proofs.YtblcoicaeeiojaaGreatDoor
open Go.RowKit
def AsL{t:IntKind}{w:World}{b ff:Nat}{xs:List Int}(h:BE t w (some ⟨b,ff,none⟩) xs)(k:Nat):BE t w (some ⟨b,ff+k,none⟩) (xs.drop k):=by
 intro j c;have m:k+j<xs.length:=by rw[GK]at c;omega
 obtain⟨C,F,e,q⟩:=h (k+j) m;injection e with e;injection e with s A _;subst s A;refine⟨_,_,rfl,?_⟩;rw[Vo,q];congr 2;simp[List.getD]
def An'{w:World}{B n c:Nat}{p:Option Addr}{xs:List Int}(h:Ak w B (.slice p n c) xs):n<=c:=Mv h rfl
structure L6 (w0:World) (x:TV) (T:Y) (B C kb:Nat) (pD:Option Addr) (D:List Int) (w:World):Prop where
 env:Am w0 x T w
 known:Jh T B C w
 kn:w.heap[kb]? = some (.cells #[.map (some B),.map (some C)] 150 (0,0))
 row:Aq w pD D
theorem L6.step{w0 w w':World}{x:TV}{T:Y}{B c e:Nat}{k:Option Addr}{D:List Int}(h:L6 w0 x T B c e k D w)(b:Below w.heap.size w w'):L6 w0 x T B c e k D w':=
 ⟨h.env.step b,h.known.below b,(b.block _ (EM.1 h.kn).1).trans h.kn,h.row.below b⟩
theorem L6.cells{w0 w:World}{x:TV}{T:Y}{B c b:Nat}{e:Option Addr}{D:List Int}(h:L6 w0 x T B c b e D w):w.cell? ⟨b,0,none⟩=some (.map (some B))/\w.cell? ⟨b,1,none⟩=some (.map (some c)):=
 ⟨Es w _ 0 _ _ (0,0) h.kn,Es w _ 1 _ _ (0,0) h.kn⟩
theorem L6.start{w0 w:World}{x:TV}{T:Y}{B b:Nat}{e:Option Addr}{D:List Int}(h:Am w0 x T w)(k:Jh T B b w)(m:Aq w e D):L6 w0 x T B b w.heap.size e D (w.alloc (.cells #[.map (some B),.map (some b)] 150)):=by
 have c:Below w.heap.size w (w.alloc (.cells #[.map (some B),.map (some b)] 150)):=(Al _ _).alloc (Ac _) _;exact⟨h.step c,k.below c,IC _ _,m.below c⟩
def AcJ{c:Int}(h:AA c=true):GF c:=by
 have:=NN.1 h;exact Pf ⟨this.1,this.2.1⟩
def Aei(x:TV)(T:Y)(p:Option Addr)(cap:Nat)(ao:List Int)(E:Int)(L:List Int)(w:World)(dO:Ah w x T)(dP:Bi w)(dQ:Aq w p ao)(dR:ao.length<=17592186043904)(ce:Hid (Bu T ao=E))(dS:Hid (BU T ao=L)):Calls prog 104 #[x.agg,.slice p ao.length cap] w (M0 L E w):=by
 obtain⟨D,cF⟩:∃D,Hid (FQ T ao=D):=⟨_,rfl⟩
 have ba:=Lib.hid (Am.new dO)
 have dT:=Lib.hid dQ
 have ep:=Lib.hid dP
 have dm:=λW (dn:Ah W x T) dq eq=>ApT x T p cap ao E D W dn dq eq dR ce cF
 obtain⟨n,dU⟩:∃n,ao.length=n:=⟨_,rfl⟩
 rw[dU]at dR dm|-
 have dV:=Lib.hid dm
 clear dO dQ dP dU dm
 simp only[TV.agg]
 go_enter func104,ntmps104
 obtain⟨⟨cf,cg,ci,cj,cl,cm⟩,⟨co,cp,cq,cr,cs,ct⟩⟩:=ba.out.box.load
 go_wp2_with fail
 refine(dV.out _ ba.out.tab (ep.out.below ba.out.ab) (dT.out.below ba.out.ab)).mono ?_
 rintro e w1 ⟨eM,rfl,dW,F⟩
 obtain⟨eN,eO,rfl,dX⟩:=dW.ap
 replace ba:=Lib.hid (ba.out.step F)
 have cI:=Lib.hid dX
 obtain⟨m,cO⟩:∃m,D.length=m:=⟨_,rfl⟩
 have eP:m<=4096:=by rw[<-cO,<-cF.out];exact Xi T ao
 rw[cO]
 have b2:=Lib.hid cO
 clear dW F dX cO dV cf cg ci cj cl cm co cp cq cr cs ct
 by_cases c2:E=0
 ·subst c2
  have c3:Hid (Av T=0):=QH ce.out
  have er:Hid (Jq T D=L):=by unfold Hid;rw[<-dS.out,OJ ce.out,cF.out]
  have es:Hid (∀y∈D,Dg T y):=by have:=Xj ce.out;rwa[cF.out]at this
  have dY:=Lib.hid (Oq c3.out)
  obtain⟨⟨cf,cg,ci,cj,cl,cm⟩,⟨co,cp,cq,cr,cs,ct⟩⟩:=ba.out.box.load
  go_wp2_with fail
  refine(AlB x T _ ba.out.tab c3.out).mono ?_
  rintro e w2 ⟨B,c4,rfl,ds,F⟩
  replace ba:=Lib.hid (ba.out.step F)
  replace cI:=Lib.hid (cI.out.below F)
  have b0:=L6.start ba.out ds cI.out
  obtain⟨q,c5⟩:∃q,q=w2.alloc (.cells #[.map (some B),.map (some c4)] 150):=⟨_,rfl⟩
  rw[<-c5]at b0
  have dZ:=Lib.hid b0
  have d0:=Lib.hid c5
  have et:Hid (q.heap.size=w2.heap.size+1):=by unfold Hid;rw[c5];simp
  have eu:=OZ m (by omega)
  clear ds F b0 c5 ba cI dT cf cg ci cj cl cm co cp cq cr cs ct
  go_wp2
  clear eu
  go_loopw[9,10,32] (λu s i wr=>∃(k:Nat) (k9:Int) (O:List Int),k<=m/\i=.int .i64 k/\s=.int .i64 k9/\Hid (CJ T D k k9 O)/\Hid (Ak wr q.heap.size u O)/\Hid (Below q.heap.size q wr)) (λ_ _ i _=>m-(intOf i).toNat)
  case atStart=>
   refine⟨0,-1,[],Nat.zero_le _,rfl,rfl,CJ.start T D,?_,?_⟩
   ·have:=Ak.made q q.heap.size m (Nat.le_refl _) (by omega)
    rw[et.out]at this|-
    rw[d0.out]at this
    simpa[Hid] using this
   ·have:=(Below.refl q.heap.size q).alloc (Nat.le_refl _) (Hs m)
    unfold Hid
    rw[d0.out]at this|-
    exact this
  case round=>
   obtain⟨k,k9,O,ds,rfl,rfl,be,b5,c6⟩:=hrel
   have b0:=Lib.hid (dZ.out.step c6.out)
   by_cases b6:k<m
   ·have d1:k<D.length:=by rw[b2.out];exact b6
    obtain⟨b,ff,rfl,d2⟩:=b0.out.row k d1
    obtain⟨c,c7⟩:∃c,D.getD k 0=c:=⟨_,rfl⟩
    rw[c7]at d2
    have b7:Hid (Dg T c):=es.out c (by rw[<-c7];simp[d1])
    have b9:=Lib.hid c7
    obtain⟨z,b3⟩:∃z,Hid (Ao T c=z):=⟨_,rfl⟩
    obtain⟨cu,a',rfl,c8⟩:=b5.out.ap
    obtain⟨no,c9⟩:∃no,O.length=no:=⟨_,rfl⟩
    rw[c9]at b5|-
    have eQ:no<=4096:=by have:=be.out.len;omega
    have eR:=An' b5.out
    have dx:=b5.out.row
    have G:=Lib.hid c9
    have dy:=be.out.cS
    rw[c9]at dy dx
    have eS:=Lib.hid dx
    have d3:=Lib.hid c8
    clear c7 c9 c8 dx
    obtain⟨⟨cf,cg,ci,cj,cl,cm⟩,⟨co,cp,cq,cr,cs,ct⟩⟩:=b0.out.env.box.load
    go_wp2_with fail
    refine(Hn _ T c z _ b0.out.env.tab dY.out.ai b3).mono ?_
    rintro e w3 ⟨rfl,F⟩
    have cv:=Lib.hid (b0.out.step F)
    have cx:=Lib.hid (b5.out.below F)
    have dz:=Lib.hid (d3.out.below F)
    have cb:=Lib.hid (c6.out.trans (F.mono c6.out.size))
    clear F d2 cf cg ci cj cl cm co cp cq cr cs ct b5 c6 b0 d3
    by_cases cy:k9<0
    ·obtain rfl:k9 = -1:=by omega
     have b1:Hid (DF T O (-1) c=none):=AfD (by omega)
     have ev:decide ((0:Int)<=-1)=false:=by decide
     clear cy dy
     go_upto_region 11 with(fail)
     go_quiet (fail)
     generalize d4:World.drewN w3 _=W
     have c':Below w3.heap.size w3 W:=by rw[<-d4];exact V5 _ _
     have cA:=Lib.hid (cv.out.step c')
     have bl:=Lib.hid (cx.out.below c')
     have A:=Lib.hid (cb.out.trans (c'.mono cb.out.size))
     clear d4 c' cv cx dz cb
     by_cases C:z=0
     ·have cB:(z==0)=true:=by simp[C]
      have bb:Hid (CJ T D (k+1) (no:Int) (O++[c])):=by
       have:=be.out.zero (by rw[b2.out];exact b6) b9.out b7.out.1 b1.out (by rw[b3.out];exact C)
       rw[G.out]at this;exact this
      have bs:=Lib.hid (CQ W #[.int .i64 c] [c] 3 rfl)
      have ac:Hid (Ak (W.alloc (.cells #[.int .i64 c] 3)) q.heap.size (.slice cu no a') O):=bl.out.alloc _
      have ad:q.heap.size<=(W.alloc (.cells #[.int .i64 c] 3)).heap.size:=by have:=A.out.size;simp;omega
      have bt:=Lib.hid (A.out.alloc A.out.size (.cells #[.int .i64 c] 3))
      clear C
      go_wp2_with (at_builtin;(refine De _ _ rfl rfl q.heap.size (.slice cu no a') O rfl ac.out (some ⟨W.heap.size,0,none⟩) 1 1 [c] rfl rfl bs.out (by rw[G.out];simp;omega) ad ?_);intro v4 bd am a9)
      have bc:Hid (Below q.heap.size q bd):=L9 bt.out ac.out (Nat.le_refl _) a9
      have bv:=Lib.hid am
      clear am a9 ad
      go_wp2
      go_roundw
      case rel=>exact⟨k+1,_,_,by omega,by go_num,rfl,bb,bv,bc⟩
      case measure=>simp[intOf];omega
     ·have cB:(z==0)=false:=by simp[C]
      have bb:Hid (CJ T D (k+1) (-1) (O++[c])):=be.out.mark (by rw[b2.out];exact b6) b9.out b7.out.1 b1.out (by rw[b3.out];exact C)
      have bs:=Lib.hid (CQ W #[.int .i64 c] [c] 3 rfl)
      have ac:Hid (Ak (W.alloc (.cells #[.int .i64 c] 3)) q.heap.size (.slice cu no a') O):=bl.out.alloc _
      have ad:q.heap.size<=(W.alloc (.cells #[.int .i64 c] 3)).heap.size:=by have:=A.out.size;simp;omega
      have bt:=Lib.hid (A.out.alloc A.out.size (.cells #[.int .i64 c] 3))
      clear C
      go_wp2_with (at_builtin;(refine De _ _ rfl rfl q.heap.size (.slice cu no a') O rfl ac.out (some ⟨W.heap.size,0,none⟩) 1 1 [c] rfl rfl bs.out (by rw[G.out];simp;omega) ad ?_);intro v4 bd am a9)
      have bc:Hid (Below q.heap.size q bd):=L9 bt.out ac.out (Nat.le_refl _) a9
      have bv:=Lib.hid am
      clear am a9 ad
      go_wp2
      go_roundw
      case rel=>exact⟨k+1,_,_,by omega,by go_num,rfl,bb,bv,bc⟩
      case measure=>simp[intOf];omega
    ·obtain⟨a,rfl⟩:∃a:Nat,k9=a:=⟨k9.toNat,by omega⟩
     have d5:a<no:=by omega
     have ev:decide ((0:Int)<=(a:Int))=true:=decide_eq_true (by omega)
     obtain⟨go,eT,d6,eU,eV,d7,d8⟩:=cx.out.row (by rw[G.out];omega)
     rw[G.out]at d6
     injection d6 with ew _ ex
     subst ew ex
     obtain⟨M,cc⟩:∃M,O.drop (a+1)=M:=⟨_,rfl⟩
     obtain⟨b4,da⟩:∃s,O.getD a 0=s:=⟨_,rfl⟩
     have d9:=d7 a (by rw[G.out];exact d5)
     rw[da]at d9
     have d_:=d8 a
     have d':=Lib.hid d9
     have eW:=Lib.hid d_
     have ey : Hid (AA b4 = true):=be.out.bk b4 (by rw [<- da]; have : a < O.length:=(by rw [G.out]; exact d5);simp[this])
     have dE:M.length=no-(a+1):=by rw[<-cc,List.length_drop,G.out]
     have dF:Hid (E4 T M c->DF T O (a:Int) c=Db T b4 c):=λh=>by
      have:=AfE (T:=T) (O:=O) (k9:=(a:Int)) (c:=c) (by omega) (by rw[Int.toNat_natCast,cc];exact h)
      rw[this,Int.toNat_natCast,da]
     have dG:Hid (¬E4 T M c->DF T O (a:Int) c=none):=λh=>AfC (by omega) (by rw[Int.toNat_natCast,cc];exact h)
     obtain⟨b8,db⟩:∃b8,Hid (decide (M≠[]/\z<=Ao T (M.getD (M.length-1) 0))=b8):=⟨_,rfl⟩
     have dH:Hid (b8=false->E4 T M c):=λh=>by
      have F:=db.out
      rw[h,decide_eq_false_iff_not]at F
      rw[Ut,b3.out]
      by_cases e:M=[]
      ·exact .inl e
      ·right
       by_cases ez:z<=Ao T (M.getD (M.length-1) 0)
       ·exact absurd ⟨e,ez⟩ F
       ·omega
     have dJ:Hid (b8=true->¬E4 T M c):=λh=>by
      have F:=db.out
      rw[h,decide_eq_true_eq]at F
      rw[Ut,b3.out]
      intro e
      rcases e with e|e
      ·exact F.1 e
      ·omega
     obtain⟨j,ea⟩:∃j,a+1=j:=⟨_,rfl⟩
     rw[ea]at cc dE
     obtain⟨dc,eb⟩:∃dc,(if a'=j then some (⟨go,0,none⟩:Addr)else some ⟨go,j,none⟩)=dc:=⟨_,rfl⟩
     have ec:Aq w3 dc M:=by
      rw[<-eb,<-cc]
      split
      ·intro i dI
       rw[List.length_drop,G.out]at dI
       omega
      ·have:=AsL dz.out j
       rwa[Nat.zero_add]at this
     have ed:=Lib.hid ec
     have ee:=Lib.hid dE
     have eA:(a:Int)+1=(j:Int):=by omega
     have eB:IntKind.i64.wrap ((a:Int)+1)=(j:Int):=by rw[IntWalk.i64_in _ (by omega)];omega
     have eC:IntKind.i64.wrap (j:Int)=(j:Int):=IntWalk.i64_in _ (by omega)
     have eD:(j:Int)<=(no:Int):=by omega
     have eE:j<=no:=by omega
     have eX:(no:Int)<=(a':Int):=by omega
     have eY:(a:Int)<(no:Int):=by omega
     have ef:Hid (no-j<=17592186043904):=by unfold Hid;omega
     have eg:=λW (dn:Ah W x T) dq=>AkC x T dc (no-j) (a'-j) M z b8 W dn dY.out.ai dq ee.out ef.out db
     have eh:=Lib.hid eg
     clear cc da dE ec cy dy d7 d8 ea dz eg
     go_upto_region 11 with(fail)
     go_cut[50] (λv dK=>v=.bool (!b8)/\Hid (Below w3.heap.size w3 dK))
     case first=>
      have ei:=cv.out.env.step (Bx w3)
      have dL:=Lib.hid ei
      clear ei
      go_region_held3 (J_ w.heap.size x)
       (first
        | exact dL.out.box.flat
        | exact(dL.out.step ej).box.flat)
       (first
        | (go_at_call 156;(with_reducible refine(eh.out _ dL.out.tab (ed.out.below (Bx w3))).mono ?_);rintro e bd ⟨rfl,ej⟩)
        | fail)
      all_goals
       have dM:=(Bx w3).trans (ej.mono (Bx w3).size)
       try (go_wp2_with fail)
       go_meet
       exact⟨by cases b8<;>rfl,dM⟩
     case rest=>
      obtain⟨rfl,cC⟩:=hcut
      generalize wc=W at cC|-
      have cA:=Lib.hid (cv.out.step cC.out)
      have bl:=Lib.hid (cx.out.below cC.out)
      have A:=Lib.hid (cb.out.trans (cC.out.mono cb.out.size))
      clear eA eB eC eD eE ed ee ef eh cv cx cb db eb
      cases b8 with
      | true =>
       have b1:Hid (DF T O (a:Int) c=none):=dG.out (dJ.out rfl)
       clear dH dJ dF dG
       by_cases C:z=0
       ·have cB:(z==0)=true:=by simp[C]
        have bb:Hid (CJ T D (k+1) (no:Int) (O++[c])):=by
         have:=be.out.zero (by rw[b2.out];exact b6) b9.out b7.out.1 b1.out (by rw[b3.out];exact C)
         rw[G.out]at this;exact this
        have bs:=Lib.hid (CQ W #[.int .i64 c] [c] 3 rfl)
        have ac:Hid (Ak (W.alloc (.cells #[.int .i64 c] 3)) q.heap.size (.slice (some ⟨go,0,none⟩) no a') O):=bl.out.alloc _
        have ad:q.heap.size<=(W.alloc (.cells #[.int .i64 c] 3)).heap.size:=by have:=A.out.size;simp;omega
        have bt:=Lib.hid (A.out.alloc A.out.size (.cells #[.int .i64 c] 3))
        clear C
        go_wp2_with (at_builtin;(refine De _ _ rfl rfl q.heap.size (.slice (some ⟨go,0,none⟩) no a') O rfl ac.out (some ⟨W.heap.size,0,none⟩) 1 1 [c] rfl rfl bs.out (by rw[G.out];simp;omega) ad ?_);intro v4 bd am a9)
        have bc:Hid (Below q.heap.size q bd):=L9 bt.out ac.out (Nat.le_refl _) a9
        have bv:=Lib.hid am
        clear am a9 ad
        go_wp2
        go_roundw
        case rel=>exact⟨k+1,_,_,by omega,by go_num,rfl,bb,bv,bc⟩
        case measure=>simp[intOf];omega
       ·have cB:(z==0)=false:=by simp[C]
        have bb:Hid (CJ T D (k+1) (a:Int) (O++[c])):=be.out.mark (by rw[b2.out];exact b6) b9.out b7.out.1 b1.out (by rw[b3.out];exact C)
        have bs:=Lib.hid (CQ W #[.int .i64 c] [c] 3 rfl)
        have ac:Hid (Ak (W.alloc (.cells #[.int .i64 c] 3)) q.heap.size (.slice (some ⟨go,0,none⟩) no a') O):=bl.out.alloc _
        have ad:q.heap.size<=(W.alloc (.cells #[.int .i64 c] 3)).heap.size:=by have:=A.out.size;simp;omega
        have bt:=Lib.hid (A.out.alloc A.out.size (.cells #[.int .i64 c] 3))
        clear C
        go_wp2_with (at_builtin;(refine De _ _ rfl rfl q.heap.size (.slice (some ⟨go,0,none⟩) no a') O rfl ac.out (some ⟨W.heap.size,0,none⟩) 1 1 [c] rfl rfl bs.out (by rw[G.out];simp;omega) ad ?_);intro v4 bd am a9)
        have bc:Hid (Below q.heap.size q bd):=L9 bt.out ac.out (Nat.le_refl _) a9
        have bv:=Lib.hid am
        clear am a9 ad
        go_wp2
        go_roundw
        case rel=>exact⟨k+1,_,_,by omega,by go_num,rfl,bb,bv,bc⟩
        case measure=>simp[intOf];omega
      | false =>
       have ek:Hid (DF T O (a:Int) c=Db T b4 c):=dF.out (dH.out rfl)
       obtain⟨⟨b',o⟩,dN⟩:∃y,Hid (IX T b4 c=y):=⟨_,rfl⟩
       obtain⟨df,dj⟩:=cA.out.cells
       have el:=λem (h:Jh T B c4 em)=>AoI T B c4 b4 c b' o em h c3.out (AcJ ey.out) (AcJ b7.out.1) dN
       have eF:=Lib.hid el
       clear el
       have cd:W.cell? ⟨go,a,none⟩=some (.int .i64 b4):=(cC.out.cell (p:=⟨go,a,none⟩) (World.block_lt_of_cell? _ _ d'.out)).trans d'.out
       clear dH dJ dF dG
       go_upto_region 12 with(fail)
       go_cut[14,15] (λu v dK=>u=.int .i64 b'/\v=.bool o/\Hid (Below W.heap.size W dK))
       case first=>
        go_region_held3 (λw'=>w'.cell? ⟨w2.heap.size,0,none⟩=some (.map (some B))/\w'.cell? ⟨w2.heap.size,1,none⟩=some (.map (some c4))/\w'.cell? ⟨go,a,none⟩=some (.int .i64 b4))
         (first
          | exact⟨df,dj,cd⟩
          | exact⟨(dk.cell (p:=⟨w2.heap.size,0,none⟩) (World.block_lt_of_cell? _ _ df)).trans df,(dk.cell (p:=⟨w2.heap.size,1,none⟩) (World.block_lt_of_cell? _ _ dj)).trans dj,(dk.cell (p:=⟨go,a,none⟩) (World.block_lt_of_cell? _ _ cd)).trans cd⟩)
         (first
          | (go_at_call 157;(with_reducible refine(eF.out _ (cA.out.known.below (Bx W))).mono ?_);rintro e eZ ⟨rfl,dk⟩)
          | fail)
        all_goals
         have dM:=(Bx W).trans (dk.mono (Bx W).size)
         try (go_wp2_with fail)
         go_meet
         exact⟨rfl,rfl,dM⟩
       case rest=>
        obtain⟨rfl,rfl,cD⟩:=hcut
        generalize wc=bx at cD|-
        replace cA:=Lib.hid (cA.out.step cD.out)
        replace bl:=Lib.hid (bl.out.below cD.out)
        replace A:=Lib.hid (A.out.trans (cD.out.mono A.out.size))
        have eG:Hid (bx.cell? ⟨go,a,none⟩=some (.int .i64 b4)):=(cD.out.cell (p:=⟨go,a,none⟩) (World.block_lt_of_cell? _ _ cd)).trans cd
        clear df dj cd
        cases o with
        | true =>
         have b1:Hid (DF T O (a:Int) c=some b'):=by unfold Hid;rw[ek.out];exact Aq7 dN.out
         have bb:Hid (CJ T D (k+1) (a:Int) (O.set a b')):=by
          have:=be.out.comp c3.out (by rw[b2.out];exact b6) b9.out b7.out b1.out
          rwa[Int.toNat_natCast]at this
         have cy:=bl.out.set G.out a b'
         have eH:=Lib.hid cy
         have bc:Hid (Below q.heap.size q (bx.setCell ⟨go,a,none⟩ (.int .i64 b'))):=A.out.grown (GU bx go a (.int .i64 b')) A.out.size (λk e=>by injection e with e;omega)
         have e0:=eG.out
         obtain⟨e1,e2,ca,_,_,_,en⟩:=bl.out.row (by rw[G.out];omega)
         injection ca with ca _ _
         injection ca with ca
         injection ca with ca _ _
         subst ca
         have d_:=en a
         clear cy en
         go_wp2
         go_roundw
         case rel=>exact⟨k+1,_,_,by omega,by go_num,rfl,bb,eH,bc⟩
         case measure=>simp[intOf];omega
        | false =>
         have b1:Hid (DF T O (a:Int) c=none):=by unfold Hid;rw[ek.out];exact(Aq6 dN.out).1
         by_cases C:z=0
         ·have cB:(z==0)=true:=by simp[C]
          have bb:Hid (CJ T D (k+1) (no:Int) (O++[c])):=by
           have:=be.out.zero (by rw[b2.out];exact b6) b9.out b7.out.1 b1.out (by rw[b3.out];exact C)
           rw[G.out]at this;exact this
          have bs:=Lib.hid (CQ bx #[.int .i64 c] [c] 3 rfl)
          have ac:Hid (Ak (bx.alloc (.cells #[.int .i64 c] 3)) q.heap.size (.slice (some ⟨go,0,none⟩) no a') O):=bl.out.alloc _
          have ad:q.heap.size<=(bx.alloc (.cells #[.int .i64 c] 3)).heap.size:=by have:=A.out.size;simp;omega
          have bt:=Lib.hid (A.out.alloc A.out.size (.cells #[.int .i64 c] 3))
          clear C
          go_wp2_with (at_builtin;(refine De _ _ rfl rfl q.heap.size (.slice (some ⟨go,0,none⟩) no a') O rfl ac.out (some ⟨bx.heap.size,0,none⟩) 1 1 [c] rfl rfl bs.out (by rw[G.out];simp;omega) ad ?_);intro v4 bd am a9)
          have bc:Hid (Below q.heap.size q bd):=L9 bt.out ac.out (Nat.le_refl _) a9
          have bv:=Lib.hid am
          clear am a9 ad
          go_wp2
          go_roundw
          case rel=>exact⟨k+1,_,_,by omega,by go_num,rfl,bb,bv,bc⟩
          case measure=>simp[intOf];omega
         ·have cB:(z==0)=false:=by simp[C]
          have bb:Hid (CJ T D (k+1) (a:Int) (O++[c])):=be.out.mark (by rw[b2.out];exact b6) b9.out b7.out.1 b1.out (by rw[b3.out];exact C)
          have bs:=Lib.hid (CQ bx #[.int .i64 c] [c] 3 rfl)
          have ac:Hid (Ak (bx.alloc (.cells #[.int .i64 c] 3)) q.heap.size (.slice (some ⟨go,0,none⟩) no a') O):=bl.out.alloc _
          have ad:q.heap.size<=(bx.alloc (.cells #[.int .i64 c] 3)).heap.size:=by have:=A.out.size;simp;omega
          have bt:=Lib.hid (A.out.alloc A.out.size (.cells #[.int .i64 c] 3))
          clear C
          go_wp2_with (at_builtin;(refine De _ _ rfl rfl q.heap.size (.slice (some ⟨go,0,none⟩) no a') O rfl ac.out (some ⟨bx.heap.size,0,none⟩) 1 1 [c] rfl rfl bs.out (by rw[G.out];simp;omega) ad ?_);intro v4 bd am a9)
          have bc:Hid (Below q.heap.size q bd):=L9 bt.out ac.out (Nat.le_refl _) a9
          have bv:=Lib.hid am
          clear am a9 ad
          go_wp2
          go_roundw
          case rel=>exact⟨k+1,_,_,by omega,by go_num,rfl,bb,bv,bc⟩
          case measure=>simp[intOf];omega
   ·obtain rfl:k=m:=by omega
    have eI:Hid (O=L):=by
     have:=be.out
     rw[<-b2.out]at this
     unfold Hid
     rw[<-er.out];exact this.done.symm
    have eJ:Hid (Below w.heap.size w wr):=b0.out.env.ab
    have eK:Hid (w.heap.size<=q.heap.size):=dZ.out.env.ab.size
    obtain⟨cu,a',rfl,c8⟩:=b5.out.ap
    have eo:=Lib.hid (b5.out.mono eK.out)
    clear c8
    rw[eI.out]at eo|-
    go_wp2
    go_ret2
    exact⟨_,rfl,eo.out,eJ.out⟩
 ·have e3:(E !=0)=true:=by simp[c2]
  have eL:Hid (L=[]):=by unfold Hid;rw[<-dS.out];exact Xf (by rw[ce.out];exact c2)
  clear c2
  go_wp2
  go_ret2
  rw[eL.out]
  exact⟨_,rfl,Ak.nil _ _,ba.out.ab⟩
end Go.Proofs.YtblcoicaeeiojaaGreatDoor
