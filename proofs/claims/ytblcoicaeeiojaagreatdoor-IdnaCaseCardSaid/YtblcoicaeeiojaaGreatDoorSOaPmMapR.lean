/- The references of order: -/
import Derived.Test.YtblcoicaeeiojaaGreatDoorSOaPmBidFact
set_option linter.all false
set_option maxHeartbeats 8000000
set_option maxRecDepth 100000
open Go.Proofs.Tryz
namespace Go.Proofs.YtblcoicaeeiojaaGreatDoor
open Go.RowKit
def Afq(x:TV)(T:Y)(p:Option Addr)(cap:Nat)(ao:List Int)(E:Int)(w:World)(s:Ah w x T)(A:Du x)(C:Aq w p ao)(am:ao.length<=17592186043904)(cr:Hid (AB T ao=E)):Calls prog 78 #[x.agg,.slice p ao.length cap] w (Ar (.int .i64 E) w):=by
 obtain⟨V,ex⟩:∃V,Hid (Av T=V):=⟨_,rfl⟩;have ac:=U (Am.new s);have a9:=U C;have a':=U A;obtain⟨n,h⟩:∃n,ao.length=n:=⟨_,rfl⟩;rw[h]at am|-;have bb:=U h;clear s C h A;simp only[TV.agg];go_enter func78,ntmps78;obtain⟨⟨ba,bc,bd,be,bs,bt⟩,⟨bx,b0,b1,b2,b3,b4⟩⟩:=ac.out.box.load;go_wp2_with fail;refine(Aft x T V _ ac.out.tab a'.out ex).mono ?_;rintro e w1 ⟨rfl,F⟩;replace ac:=U (ac.out.step F);clear F ba bc bd be bs bt bx b0 b1 b2 b3 b4;by_cases bl:V=0
 ·have b5:(V !=0)=false:=by simp[bl]
  have bv:Hid (Av T=0):=ex.out.trans bl;by_cases fc:4096<n
  ·have b6:decide ((4096:Int)<(n:Int))=true:=At O;have ek:Hid (E=7):=Awt;clear bl fc;exact YE
  ·have b6:decide ((4096:Int)<(n:Int))=false:=Ai O;have b':¬(4096<n):=fc;have lz:n<=4096:=O;clear bl fc;go_wp2;go_loopw[15] (λi wr=>∃k:Nat,k<=n/\i=.int .i64 k/\Hid ((ao.take k).all AA=true)/\w1=wr) (λi _=>n-(intOf i).toNat)
   case atStart=>exact⟨0,Au _,rfl,rfl,rfl⟩
   case round=>
    obtain⟨k,ca,rfl,cI,rfl⟩:=hrel;by_cases b7:k<n
    ·have G:k<ao.length:=by rw[bb.out];exact b7
     obtain⟨b,ff,rfl,b8⟩:=(a9.out.below ac.out.ab) k G;obtain⟨c,L⟩:∃c,ao.getD k 0=c:=⟨_,rfl⟩;have m:=AaT G cI.out;rw[L]at b8 m;have ad:=U m;obtain⟨B,q⟩:∃B,Hid (AA c=B):=⟨_,rfl⟩;clear L m;go_wp2_with fail;refine(Af0 c B _ q).mono ?_;rintro e w2 ⟨rfl,rfl⟩;cases B with
     | false =>
      have ek:Hid (E=3):=by unfold Hid;rw[<-cr.out];exact AaN bv.out Ai6 (AaV (k+1) (by rw[ad.out];exact q.out))
      exact YE
     | true =>
      have b9:Hid ((ao.take (k+1)).all AA=true):=by unfold Hid;rw[ad.out];exact q.out
      go_wp2;go_roundw
      case rel=>exact⟨k+1,O,An,b9,trivial⟩
      case measure=>simp[intOf];omega
    ·obtain rfl:k=n:=by omega
     have ek:Hid (E=0):=AvP;exact YE
 ·have b5:(V !=0)=true:=by simp[bl]
  have ek:Hid (E=2):=AwC;clear bl;exact YE
def As0(v u:Value)(xs cy:List Int)(B:Bool)(w:World)(h:Bp w v xs)(m:Bp w u cy)(ef:Hid ((xs==cy)=B)):Calls prog 135 #[v,u] w (Ar (.bool B) w):=by
 obtain⟨p,c,rfl,b,A⟩:=h;obtain⟨q,d,rfl,e,C⟩:=m;by_cases cl:xs.length=cy.length
 ·have s:((xs.length:Int) !=(cy.length:Int))=false:=by simp[cl]
  have eh:=U b;have j':=U e;have cF:=U cl;clear cl b e;go_enter func135,ntmps135;go_wp2;go_loopw[13] (λi wr=>∃k:Nat,k<=xs.length/\i=.int .i64 k/\Hid (xs.take k=cy.take k)/\Below w.heap.size w wr) (λi _=>xs.length-(intOf i).toNat)
  case atStart=>exact⟨0,Au _,rfl,rfl,Al _ _⟩
  case round=>
   exact AxL
 ·have s:((xs.length:Int) !=(cy.length:Int))=true:=by simp;omega
  have c6:Hid (B=false):=Awq;clear cl b e;go_enter func135,ntmps135;exact Axo
def M4(L:List Int)(w:World)(e:Ending)(w':World):Prop:=∃v,e=.returned v/\Ak w' w.heap.size v L/\Below w.heap.size w w'
structure Ig (w0:World) (x:TV) (T:Y) (g n c:Nat) (O:List Int) (w:World):Prop where
 env:Am w0 x T w
 row:Ak w (w0.heap.size+1) (.slice (some ⟨g,0,none⟩) n c) O
 len:O.length=n
theorem Ig.step{w0 w w':World}{x:TV}{T:Y}{g n c:Nat}{O:List Int}(h:Ig w0 x T g n c O w)(b:Below w.heap.size w w'):Ig w0 x T g n c O w':=⟨h.env.step b,h.row.below b,h.len⟩
theorem Ig.cells{w0 w:World}{x:TV}{T:Y}{g n c:Nat}{O:List Int}(h:Ig w0 x T g n c O w)(b:0<n):w0.heap.size<g/\g<w.heap.size/\(∀k,k<n->w.cell? ⟨g,k,none⟩=some (.int .i64 (O.getD k 0)))/\∀k,w.frozen? ⟨g,k,none⟩=false:=by
 obtain⟨F,G,e,m,q,s,A⟩:=h.row.row (by rw[h.len];exact b);cases e;exact⟨m,q,λk C=>s k (by rw[h.len];exact C),A⟩
theorem Ig.read{w0 w:World}{x:TV}{T:Y}{g n c:Nat}{O:List Int}(h:Ig w0 x T g n c O w):NJ w g n=O:=by
 by_cases b:0<n
 ·exact Ar3 h.len (h.cells b).2.2.1
 ·obtain rfl:n=0:=by omega
  have:O=[]:=Bw h.len;rw[this];rfl
theorem Ig.swap{w0 w:World}{x:TV}{T:Y}{g n c:Nat}{O:List Int}(h:Ig w0 x T g n c O w)(b:Ah w0 x T)(k:Nat)(F:k+1<n){A B:Int}(e:O.getD k 0=A)(m:O.getD (k+1) 0=B):Ig w0 x T g n c (IY O k) (((w.setCell ⟨g,k,none⟩ (.int .i64 B)).setCell ⟨g,k+1,none⟩ (.int .i64 A)).drew):=by
 have q:=(h.cells (by omega)).1
 have s:w.grownBy ((w.setCell ⟨g,k,none⟩ (.int .i64 B)).setCell ⟨g,k+1,none⟩ (.int .i64 A)) (some g):=A5 (GU w g k _) (GU _ g (k+1) _)
 have C:=(h.env.grown b s q).step (Bx _)
 refine⟨C,?_,by rw[At_];exact h.len⟩
 refine World.ownsRow.drew ?_
 unfold IY
 rw[e,m]
 exact(h.row.set h.len k B).set (by simp[h.len]) (k+1) A
def Abj{K:Int->Int}{O:List Int}{k:Nat}{A B c b:Int}(e:O.getD k 0=A)(m:O.getD (k+1) 0=B)(q:K A=c)(s:K B=b)(h:¬(0<b/\b<c)):¬(0<K (O.getD (k+1) 0)/\K (O.getD (k+1) 0)<K (O.getD k 0)):=by
 rw[e,m,q,s];exact h
def AsA(x:TV)(T:Y)(p:Option Addr)(cap:Nat)(ao S:List Int)(w:World)(b5:Ah w x T)(b6:Aq w p ao)(dm:ao.length<=4096)(ct:Hid (Bh (Ao T) ao=S)):Calls prog 132 #[x.agg,.slice p ao.length cap] w (M4 S w):=by
 have b7:=U (Am.new b5);have cu:=U b5;have d2:=U b6;obtain⟨n,b8⟩:∃n,ao.length=n:=⟨_,rfl⟩;rw[b8]at dm|-;have bb:=U b8;have b9:Hid (Aq (w.alloc (.cells (AG x) 26)) p ao):=b6.alloc _;clear b5 b6 b8;simp only[TV.agg];go_enter func132,ntmps132;simp only[AG]at b7 b9;go_wp2_with (at_builtin;refine De (.const (.slice none 0 0)) (.tmp 10) rfl rfl (w.heap.size+1) (.slice none 0 0) [] rfl (Ak.nil _ _) p n cap ao bb.out rfl b9.out (by rw[bb.out];simp;omega) J ?_;intro d3 w1 b' cv);rw[Cv]at b';have ca:=U (b7.out.aI cu.out (Ak.nil _ _) cv);have be:=U b';clear b7 b9 b' cv;by_cases bx:n=0
 ·have cx:ao=[]:=Bw (bb.out.trans bx);have cb:Hid (S=ao):=by unfold Hid;rw[<-ct.out,cx];rfl
  obtain⟨d4,d5,bl,dn⟩:=be.out.ap;rw[bb.out,bx]at bl;subst bl;clear cx dn bx;go_wp2;go_loopw[6,7,8,9] (λb _ _ _ wr=>(b=.bool true\/b=.bool false)/\w1=wr) (λb _ _ _ _=>ND b)
  case atStart=>exact⟨.inl rfl,rfl⟩
  case round=>
   obtain⟨dq,rfl⟩:=hrel;rcases dq with rfl|rfl
   ·go_wp2;go_loopw[6,7,8,9] (λb i _ _ wr=>b=.bool false/\i=.int .i64 1/\w1=wr) (λ_ _ _ _ _=>0)
    case atStart=>exact⟨rfl,rfl,rfl⟩
    case round=>
     obtain⟨rfl,rfl,rfl⟩:=hrel;go_wp2;go_roundw
     case rel=>exact⟨.inr rfl,trivial⟩
     case measure=>simp[ND]
   ·go_wp2;go_ret;exact⟨_,rfl,by rw[cb.out];exact be.out.mono (KY _),ca.out.ab⟩
 ·obtain⟨g,c,bl,_⟩:=be.out.row FD;rw[bb.out]at bl;subst bl;have cy:Hid (Ig w x T g n c ao w1):=⟨ca.out,be.out,bb.out⟩;have cA:0<n:=O;clear ca be bx;go_wp2;go_loopw[6,7,8,9] (λb _ _ _ wr=>∃m:List Int,∃M:Bool,b=.bool M/\Hid (Ig w x T g n c m wr)/\Hid (Bh (Ao T) m=S)/\Hid (M=false->BR (Ao T) m)) (λb _ _ _ wr=>ND b+G_ (Ao T) (NJ wr g n))
  case atStart=>exact⟨ao,true,rfl,cy,ct,λh=>Ds⟩
  case round=>
   obtain⟨s,M,rfl,b0,cB,cC⟩:=hrel;clear cy;cases M with
   | false =>
    have cb:Hid (S=s):=by unfold Hid;rw[<-cB.out];exact LA _ _ (cC.out rfl)
    go_wp2;go_ret;exact⟨_,rfl,by rw[cb.out];exact b0.out.row.mono (KY _),b0.out.env.ab⟩
   | true =>
    have ds:Hid (NJ wr g n=s):=b0.out.read;clear cC;go_wp2;obtain⟨cD,rfl⟩:∃cD:World,cD=wr:=⟨_,rfl⟩;go_loopw[6,7,8,9] (λb i _ _ dx=>∃m:List Int,∃M:Bool,∃k:Nat,b=.bool M/\i=.int .i64 (k+1:Nat)/\k<=n/\Hid (Ig w x T g n c m dx)/\Hid (Bh (Ao T) m=S)/\Hid (M=false->m=s/\∀j,j<k->¬(0<Ao T (m.getD (j+1) 0)/\Ao T (m.getD (j+1) 0)<Ao T (m.getD j 0)))/\Hid (M=true->G_ (Ao T) m<G_ (Ao T) s)) (λ_ i _ _ _=>n+1-(intOf i).toNat)
    case atStart=>exact⟨s,false,0,rfl,rfl,Au _,b0,cB,λ_=>⟨rfl,λj h=>absurd h (FH _)⟩,λh=>Ds⟩
    case round=>
     obtain⟨m,M,k,rfl,rfl,d6,C,b1,F,bs⟩:=hrel;obtain⟨j,cc⟩:∃j,k+1=j:=⟨_,rfl⟩;rw[cc];by_cases cF:j<n
     ·have cI:k<n:=by omega
      obtain⟨cd,ce,G,L⟩:=C.out.cells cA;obtain⟨A,cf⟩:∃A,m.getD k 0=A:=⟨_,rfl⟩;obtain⟨B,cg⟩:∃B,m.getD j 0=B:=⟨_,rfl⟩;have a':=G k cI;have ac:=G j cF;rw[cf]at a';rw[cg]at ac;have ci:=L k;have b2:=L j;obtain⟨b3,b4⟩:∃z,Hid (Ao T A=z):=⟨_,rfl⟩;obtain⟨ad,bt⟩:∃z,Hid (Ao T B=z):=⟨_,rfl⟩;have bv:=U cf;have ba:=U cg;have q:=U cc;have d7:(j:Int)-1=(k:Int):=O;have d8:IntKind.i64.wrap ((j:Int)-1)=(k:Int):=H_;have d9:IntKind.i64.wrap (k:Int)=(k:Int):=AT _ O;have d_:(k:Int)<(n:Int):=O;have d':(j:Int)<(n:Int):=O;have dy:=λp=>Aj a' p;have dz:=λp=>Aj ac p;obtain⟨⟨cO,c2,c3,c4,c5,c6⟩,⟨c7,c8,c9,c',da,db⟩⟩:=C.out.env.box.load;have dE:=λp=>Aj cO p;have dF:=λp=>Aj c2 p;have dG:=λp=>Aj c3 p;have dH:=λp=>Aj c4 p;have dJ:=λp=>Aj c5 p;have dK:=λp=>Aj c6 p;have dL:=λp=>Aj c7 p;have dM:=λp=>Aj c8 p;have dN:=λp=>Aj c9 p;have dO:=λp=>Aj c' p;have dP:=λp=>Aj da p;have dQ:=λp=>Aj db p;have cj:=λp=>Dm (p:=p) λcl cm=>Kv x T A b3 cl (C.out.env.tab.below cm) b4;have co:=λp=>Dm (p:=p) λcl cm=>Kv x T B ad cl (C.out.env.tab.below cm) bt;simp only[TV.agg]at cj co;have dc:=U cj;have df:=U co;clear cf cg G L cj co cO c2 c3 c4 c5 c6 c7 c8 c9 c' da db a' ac ci b2 cd ce;go_upto_region 8 with(fail);refine DG Ax Ax ?_
      repeat (go_big_quiet_step (first
       | (go_at_call 91;with_reducible exact dc.out _)
       | (go_at_call 91;with_reducible exact df.out _)))
      refine wpQuiet_nil ?_;intro _ dR;obtain⟨pq,dS⟩:=dR;subst dS;have cp:=Dx wr pq;have bc:=U (C.out.step cp);generalize Cf wr pq=w6 at cp bc|-;clear cp dE dF dG dH dJ dK dL dM dN dO dP dQ dy dz dc df;by_cases am:0<ad
      ·have dT:decide (0<ad)=true:=At am;by_cases bd:ad<b3
       ·have dU:decide (ad<b3)=true:=At bd;obtain⟨cd,ce,G,L⟩:=bc.out.cells cA;have a':=G k cI;have ac:=G j cF;rw[bv.out]at a';rw[ba.out]at ac;have ci:=L k;have b2:=L j;have dj:(⟨g,k,none⟩:Addr)≠⟨g,j,none⟩:=by intro h;have dV:=q.out;injection h with _ ea;omega
        have dW:(w6.setCell ⟨g,k,none⟩ (.int .i64 B)).drew.cell? ⟨g,j,none⟩=some (.int .i64 B):=(AY _ _ _ _ dj).trans ac;have dX:(w6.setCell ⟨g,k,none⟩ (.int .i64 B)).drew.frozen? ⟨g,j,none⟩=false:=(DC _ _ _ _).trans b2;have dk:=U (bc.out.swap cu.out k (by have:=q.out;omega) (A:=A) (B:=B) bv.out (q.out.symm▸ba.out));rw[q.out]at dk;have cq:=Yk (Ao T) m k (by have cr:=bc.out.len;have dV:=q.out;omega) (by rw[q.out,ba.out,bt.out];exact am) (by rw[q.out,ba.out,bv.out,bt.out,b4.out];exact bd);have dY:=U (cq.1.trans b1.out);have dZ:Hid (G_ (Ao T) (IY m k)<G_ (Ao T) s):=by
         unfold Hid;have cr:=cq.2;cases M with
         | false=>rw[<-(F.out rfl).1];exact cr
         | true=>exact Nat.lt_trans cr (bs.out rfl)
        clear am bd dj cq G L cd ce;go_wp2;go_region;clear a' ac ci b2 dW dX;go_wp2;go_roundw
        case rel=>exact⟨IY m k,true,k+1,rfl,by rw[q.out];go_num,O,dk,dY,(λh=>Ds),λ_=>dZ.out⟩
        case measure=>simp[intOf];omega
       ·have dU:decide (ad<b3)=false:=Ai bd;have cs:Hid (M=false->m=s/\∀j,j<k+1->¬(0<Ao T (m.getD (j+1) 0)/\Ao T (m.getD (j+1) 0)<Ao T (m.getD j 0))):=λa9=>⟨(F.out a9).1,λi dI=>by
         by_cases e:i=k
         ·subst e;exact Abj bv.out (by rw[q.out];exact ba.out) b4.out bt.out (λh=>bd h.2)
         ·exact(F.out a9).2 i O⟩
        clear am bd;go_wp2;go_roundw
        case rel=>exact⟨m,M,k+1,rfl,by rw[q.out];go_num,O,bc,b1,cs,bs⟩
        case measure=>simp[intOf];omega
      ·have dT:decide (0<ad)=false:=Ai am;have cs:Hid (M=false->m=s/\∀j,j<k+1->¬(0<Ao T (m.getD (j+1) 0)/\Ao T (m.getD (j+1) 0)<Ao T (m.getD j 0))):=λa9=>⟨(F.out a9).1,λi dI=>by
        by_cases e:i=k
        ·subst e;exact Abj bv.out (by rw[q.out];exact ba.out) b4.out bt.out (λh=>am h.1)
        ·exact(F.out a9).2 i O⟩
       clear am;go_wp2;go_roundw
       case rel=>exact⟨m,M,k+1,rfl,by rw[q.out];go_num,O,bc,b1,cs,bs⟩
       case measure=>simp[intOf];omega
     ·have d0:Hid (M=false->BR (Ao T) m):=λa9=>by
       rw[Wv];intro i dI;rw[C.out.len]at dI;exact(F.out a9).2 i O
      have d1:Hid (ND (.bool M)+G_ (Ao T) (NJ wr g n)<1+G_ (Ao T) s):=by
       unfold Hid;rw[C.out.read];cases M with
       | false=>rw[(F.out rfl).1];simp[ND]
       | true=>have:=bs.out rfl;simp[ND];omega
      clear F bs cc;go_wp2;go_roundw
      case rel=>exact⟨m,M,rfl,C,b1,d0⟩
      case measure=>have:=d1.out;rw[ds.out];simpa[ND] using this
def Avd{w: World}{o: Oper}{a: Act}{K: Act->World->Prop}{Q: Exit->Act->World->Prop}(s x: Operand)
  (cq:o.op=.call { callee:=.builtin .append,args:=#[s,x],argTypes:=#[22,22]})
  (base:Nat) (v:Value) (xs:List Int) (b2:a.eval s=v) (cm:Ak w base v xs)
  (p:Option Addr) (m c:Nat) (cy:List Int) (A:cy.length=m) (b3:a.eval x=.slice p m c) (e9:Aq w p cy)
  (bb:xs.length+cy.length<=17592186043904) (C:base<=w.heap.size)
  (h:∀fa w',Ak w' base fa (xs++cy)->w.grownBy w' v.ownBlock->(fa.ownBlock=v.ownBlock\/fa.ownBlock=some w.heap.size)->K (a.put o.dst fa) w'):o.wp prog a w K Q:=by
 subst A;obtain⟨q,dI,F,G,L⟩:=Cp info3;cases p with
 | none =>
  have ac:cy=[]:=AiK;subst ac;have ad:=X6 (P:=prog) base 22 o.type 3 q 1 underlying22 dI v xs.length _ c cm;unfold Oper.wp execOp;simp only[cq,resolve,invoke,builtin,PC,PD,PA,Oc,BH,Eg,b2,b3,Gh,ad];exact h v w ZV (Qu _ _) (.inl rfl)
 | some k_ =>
  have am:∀j u,(cy.map (Value.int .i64))[j]? = some u->w.cell? (k_.add j)=some u:=by
   intro j u en;rw[Gg]at en;cases k:cy[j]? with
   | none=>rw[k]at en;cases en
   | some y =>
    rw[k]at en;simp only[MW,FI]at en;obtain⟨a9,bc⟩:=LX.1 k;obtain⟨b,ff,e,a'⟩:=e9 j a9;simp only[FI]at e;subst e;rw[GI,a',<-en];simp[List.getD,k]
  have ba:∀u∈cy.map (Value.int .i64),u.oneCell'=true:=AxB;obtain⟨fa,w',lw,be,cD,_,eB⟩:=run_append_own_at (P:=prog) w base 22 o.type 3 q _ 1 8 underlying22 dI F G L rfl Aw v xs.length _ cm
   k_ cy.length c (cy.map (Value.int .i64)) J am ba BQ O C
  exact AvD
def Ag8{w: World}{ops: Array Oper}{k: List Oper}{o: Oper}{a: Act}{Q: Exit->Act->World->Prop}(s x: Operand)
  (q:o.op=.call { callee:=.builtin .append,args:=#[s,x],argTypes:=#[22,22]})
  (A:Region.wanted o (yielded ops a.tmps)=true)
  (base:Nat) (v:Value) (xs:List Int) (C:a.eval s=v) (F:Ak w base v xs)
  (p:Option Addr) (m c:Nat) (b:List Int) (G:b.length=m) (L:a.eval x=.slice p m c) (ac:Aq w p b)
  (ad:xs.length+b.length<=17592186043904) (am:base<=w.heap.size)
  (h:∀e w',Ak w' base e (xs++b)->w.grownBy w' v.ownBlock->(e.ownBlock=v.ownBlock\/e.ownBlock=some w.heap.size)->wpList prog ops Q k (a.put o.dst e) w'):wpList prog ops Q (o::k) a w:=by
 unfold wpList;rw[N A];exact .inl (Avd s x q base v xs C F p m c b G L ac ad am h)
def Ajw(B:Nat)(v:Value)(h:List Int)(w:World)(e:Ending)(w':World):Prop:=
 ∃c,e=.returned c/\Ak w' B c h/\w.grownBy w' v.ownBlock/\∀b,b<w.heap.size->v.ownBlock≠some b->c.ownBlock≠some b
structure F0 (B:Nat) (w1:World) (v u:Value) (ys:List Int) (wr:World):Prop where
 row:Ak wr B u ys
 grown:w1.grownBy wr v.ownBlock
 off:∀b,b<w1.heap.size->v.ownBlock≠some b->u.ownBlock≠some b
theorem F0.start{B:Nat}{w1:World}{v:Value}{xs:List Int}(h:Ak w1 B v xs):F0 B w1 v v xs w1:=⟨h,Qu _ _,λ_ _ h=>h⟩
theorem F0.step{B:Nat}{w1 wr w':World}{v u:Value}{b:List Int}(h:F0 B w1 v u b wr)(c:Below wr.heap.size wr w'):F0 B w1 v u b w':=
 ⟨h.row.below c,Anr h.grown c,h.off⟩
theorem F0.write{B:Nat}{w1 wr w':World}{v u m:Value}{s ao:List Int}(h:F0 B w1 v u s wr)(A:Ak w' B m ao)(c:wr.grownBy w' u.ownBlock)(C:∀b,b<wr.heap.size->u.ownBlock≠some b->m.ownBlock≠some b):F0 B w1 v m ao w':=by
 refine⟨A,⟨c.os.trans h.grown.os,c.tape.trans h.grown.tape,c.output.trans h.grown.output,Af h.grown.size c.size,λi dI k=>?_⟩,λb q k=>C b (Ci q h.grown.size) (h.off b q k)⟩;exact(c.block i (Ci dI h.grown.size) (λe=>h.off i dI (λF=>k F.symm) e.symm)).trans (h.grown.block i dI k)
def Aep{v u:Value}{w:World}(h:u.ownBlock=v.ownBlock\/u.ownBlock=some w.heap.size):∀b,b<w.heap.size->v.ownBlock≠some b->u.ownBlock≠some b:=by
 intro b k c;rcases h with e|e
 ·rw[e];exact c
 ·rw[e];simp;omega
theorem AS.off{w w':World}{g:Nat}{x:TV}{row:Option Nat}(h:AS w g x)(b:w.grownBy w' row)(c:row≠some g):AS w' g x:=by
 obtain⟨⟨bl,a',be,cD,eL,eB⟩,⟨ez,ey,ea,fm,fN,iJ⟩⟩:=h;have fM:∀i v,w.cell? ⟨g,i,none⟩=some v->w'.cell? ⟨g,i,none⟩=some v:=λi v k=>b.cell k (λe=>c e.symm);exact UJ
theorem F0.box{B g:Nat}{w1 wr:World}{v u:Value}{b:List Int}{x:TV}(h:F0 B w1 v u b wr)(c:AS w1 g x)(e:v.ownBlock≠some g):AS wr g x:=c.off h.grown e
theorem F0.ab{w0 w1 wr:World}{v u:Value}{xs c:List Int}(h:F0 w0.heap.size w1 v u c wr)(e:Ak w1 w0.heap.size v xs)(b:Below w0.heap.size w0 w1):Below w0.heap.size w0 wr:=b.grown h.grown b.size e.base
theorem F0.kept{B c:Nat}{w1 wr:World}{v u q:Value}{m k:List Int}(h:F0 B w1 v u m wr)(s:Ak w1 c q k)(A:∀b,q.ownBlock=some b->v.ownBlock≠some b):Ak wr c q k:=by
 refine N8 s h.grown ?_;cases C:q.ownBlock with
 | none=>exact .inl rfl
 | some b=>exact .inr λe=>A b C e.symm
theorem F0.post{B:Nat}{w w1 wr:World}{v u:Value}{e:List Int}(h:F0 B w1 v u e wr)(c:Below w.heap.size w w1):w.grownBy wr v.ownBlock/\∀b,b<w.heap.size->v.ownBlock≠some b->u.ownBlock≠some b:=
 ⟨A5 (G4 c _) h.grown,λb k=>h.off b (Ci k c.size)⟩
def Alg(v:Value)(xs:List Int)(w:World)(F:Bp w v xs):Calls prog 264 #[v] w (M4 xs w):=by
 obtain⟨p,c,rfl,e9,G⟩:=F;have L:=U e9;cases p with
 | none =>
  have ac:xs=[]:=Ay3;subst ac;clear e9;have ad:∀W,(binOp .eql 22 (.slice none 0 c) (.slice none 0 0)).run prog W=.ok (.bool true) W:=λW=>U_ (P:=prog) W 22 3 none 0 c 0 0 underlying22;go_enter func264,ntmps264;go_wp2;go_ret;exact⟨_,rfl,Ak.nil _ _,Al _ _⟩
 | some a =>
  have am:=U (N9 (base:=w.heap.size) (e:=3) (size:=1) w #[] 0 (Ac _) BQ rfl);have h:=U ((Al w.heap.size w).alloc (Ac _) (.cells #[] 3));have a9:=U (L.out.below h.out);clear e9;have ad:∀W,(binOp .eql 22 (.slice (some a) xs.length c) (.slice none 0 0)).run prog W=.ok (.bool false) W:=λW=>U_ (P:=prog) W 22 3 (some a) xs.length c 0 0 underlying22;go_enter func264,ntmps264;go_wp2_with (at_builtin;refine De _ _ rfl rfl w.heap.size (.slice (some ⟨w.heap.size,0,none⟩) 0 0) [] (by rfl) (by exact am.out) (some a) xs.length c xs rfl (by rfl) (by exact a9.out) Ae J ?_;intro a' w1 m q);have s:=h.out.grown q J (λk e=>Aww);have b:Ak w1 w.heap.size a' xs:=m;obtain⟨be,bl,A,ba⟩:=b.ap;have bb:=U b;have bc:=U s;obtain⟨n,C⟩:∃n,xs.length=n:=⟨_,rfl⟩;rw[C]at A;subst A;clear m b q ba s C G;go_wp2;go_ret;exact⟨_,rfl,bb.out,bc.out⟩
theorem M4.step{L:List Int}{w w1 w2:World}{e:Ending}(b:Below w.heap.size w w1)(h:M4 L w1 e w2):M4 L w e w2:=by
 obtain⟨v,c,k,m⟩:=h;exact⟨v,c,k.mono b.size,b.trans (m.mono b.size)⟩
def Atv(v:Value)(l:List Mp)(c:Int)(w:World)(a':DK w v l)(A:AL 0 1114111 (AC l)=true):Calls prog 224 #[v,.int .i64 c] w (M4 (As l c) w):=by
 obtain⟨p,C,rfl,F,G⟩:=a';have q:=U F;have L:=U A;clear F A;cases h:AP l c with
 | false =>
  have ba:Hid (As l c=[]):=FN h;have m:=U h;clear h;go_enter func224,ntmps224;go_wp2_with fail;refine(Lm _ l c _ ⟨p,C,rfl,q.out,G⟩ L.out).mono ?_;rintro e w1 ⟨i,rfl,dI,s,b⟩;rw[m.out];have k:=U b;clear b s;go_wp2;go_ret;rw[ba.out];exact⟨_,rfl,Ak.nil _ _,k.out⟩
 | true =>
  have m:=U h;clear h;go_enter func224,ntmps224;go_wp2_with fail;refine(Lm _ l c _ ⟨p,C,rfl,q.out,G⟩ L.out).mono ?_;rintro e w1 ⟨i,rfl,dI,s,b⟩;obtain⟨bb,bc,ac⟩:=s m.out;rw[m.out];obtain⟨g,ff,u,rfl,bd,be,ad⟩:=(q.out.below b) i bb;have bl:=U ad;have k:=U b;have bs:=U ac;clear b bd bc ad ac;go_wp2_with fail;refine(Alg u _ _ bl.out).mono ?_;rintro e w2 ⟨bt,rfl,am,a9⟩;have bv:Hid (Ak w2 w.heap.size bt (As l c)):=by unfold Hid;rw[bs.out];exact am.mono k.out.size
  have bx:=U (k.out.trans (a9.mono k.out.size));clear am a9 be;go_wp2;go_ret;exact⟨_,rfl,bv.out,bx.out⟩
def O9(x:TV)(T:Y)(c:Int)(xs:List Int)(w:World)(q:Ah w x T)(s:AL 0 1114111 (AC T.dec)=true)(F:Hid (As T.dec c=xs)):Calls prog 266 #[x.agg,.int .i64 c] w (M4 xs w):=by
 have b:=U (Am.new q);have k:=b.out.at9;have G:=U s;clear s;have m:=λW h=>Atv x.a9 T.dec c W h G.out;rw[F.out]at m;have L:=U m;clear m;clear q;simp only[TV.agg];go_enter func266,ntmps266;go_wp2_with fail;refine(L.out _ b.out.tab.dec).mono ?_;rintro e w1 ⟨am,rfl,A,C⟩;have ac:=U (b.out.step C);have ad:=U (A.mono b.out.ab.size);clear C k A;go_wp2;go_ret;exact⟨_,rfl,ad.out,ac.out.ab⟩
theorem Abh{T:Y}:∀(m:Nat) (l:List Int) (k:Nat),k<l.length->(∀j,j<k->AM T (l.getD j 0)≠0)->AM T (l.getD k 0)=0->ER T m l=some (m+k)
 | m,[],k,h,_,_=>E5
 | m,c::r,0,h,_,b=>by
  rw[ER,N (by simpa using b)];rfl
 | m,c::r,k+1,h,dy,b=>by
  have e:=dy 0 O;rw[ER,V (by simpa using e),Abh (m+1) r k Co (λj q=>Azq) (by simpa only[CS] using b)];rw[show m+1+k=m+(k+1) by omega]
def Aks{T:Y}{l:List Int}(b:∀j,j<l.length->AM T (l.getD j 0)≠0):ER T 0 l=none:=
 (Qb 0 l).2 λc e=>by
  obtain⟨i,dI,rfl⟩:=JU e;have:=b i dI;rwa[show l.getD i 0=l[i] by simp[dI]]at this
def Ad0(T:Y)(l:List Int)(k:Nat)(h:k<l.length):AF T (l.take (k+1))=AF T (l.take k)++Dz T (l.getD k 0):=by
 rw[C4 l k h,AdW];unfold AF;exact J
def AdT{T:Y}{c:Int}(h:AM T c=3):Dz T c=FP T c:=N h
def AdV{T:Y}{c:Int}(h:AM T c=1\/AM T c=4):Dz T c=[c]:=by unfold Dz;rw[V O,N h]
def Api{T:Y}{c:Int}(b:AM T c≠3)(h:¬(AM T c=1\/AM T c=4)):Dz T c=[]:=by unfold Dz;rw[V b,V h]
def W8{T:Y}(e:Av T=0){l:List Int}(b:l.all AA=true)(k:Nat):(AF T (l.take k)).length<=18*k:=by
 have m:=(QF e (l.take k) (by
  rw[AR]at b|-
  exact λc h=>b c (KW h))).1
 have q:(l.take k).length<=k:=Ae;omega
def Apm{T:Y}{l:List Int}(h:AB T l≠0):Bl T l=([],0,AB T l):=by unfold Bl;rw[N h]
def Apn{T:Y}{l:List Int}{i:Nat}(h:AB T l=0)(b:ER T 0 l=some i):Bl T l=([],i,16):=by unfold Bl;rw[V O,b]
def Apo{T:Y}{l:List Int}(h:AB T l=0)(b:ER T 0 l=none):Bl T l=if 4096<(AF T l).length then([],0,7) else(AF T l,0,0):=by unfold Bl;rw[V O,b]
def App(T:Y)(l:List Int):(Bl T l).1.length<=4096:=by
 unfold Bl;split
 ·exact J
 ·cases ER T 0 l with
  | some i=>simp
  | none =>
   simp only;split
   ·exact J
   ·exact MI
def Jx(x:TV)(T:Y)(p:Option Addr)(cap:Nat)(ao:List Int)(E:Int)(w:World)(c:Ah w x T)(h:Du x)(k:Aq w p ao)(m:ao.length<=17592186043904)(s:Hid (AB T ao=E)):Calls prog 52 #[x.agg,.slice p ao.length cap] w (Ar (.int .i64 E) w):=by
 have b:=λW (A:Ah W x T) C=>Afq x T p cap ao E W A h C m s;have ac:=U (Am.new c);have F:=U k;obtain⟨n,q⟩:∃n,ao.length=n:=⟨_,rfl⟩;rw[q]at m b|-;have G:=U b;clear c k q h b;simp only[TV.agg];go_enter func52,ntmps52;obtain⟨⟨cf,b8,b',b9,cd,b6⟩,⟨ci,cb,b7,ca,cc,cg⟩⟩:=ac.out.box.load;go_wp2_with fail;refine(G.out _ ac.out.tab (F.out.below ac.out.ab)).mono ?_;rintro e w1 ⟨rfl,cC⟩;exact AAL
def Ad5(w:World)(c:Int):Aq (w.alloc (.cells #[.int .i64 c] 3)) (some ⟨w.heap.size,0,none⟩) [c]:=by
 intro k ba;exact AiW
def Vw(L:List Int)(K:Nat)(E:Int)(w:World)(e:Ending)(w':World):Prop:=
 ∃v,e=.returned (.tuple #[v,.int .i64 K,.int .i64 E])/\Ak w' w.heap.size v L/\Below w.heap.size w w'
def AfT(x:TV)(T:Y)(p:Option Addr)(cap:Nat)(ao:List Int)(L:List Int)(K:Nat)(E:Int)(w:World)(bx:Ah w x T)(b3:Du x)(b4:Aq w p ao)(b6:ao.length<=17592186043904)(c8:Hid (Bl T ao=(L,K,E))):Calls prog 26 #[x.agg,.slice p ao.length cap] w (Vw L K E w):=by
 obtain⟨A,co⟩:∃A,Hid (AB T ao=A):=⟨_,rfl⟩;have ac:=U (Am.new bx);have eh:=U bx;have b7:=U b4;have b0:=λW (ca:Ah W x T) cb=>Jx x T p cap ao A W ca b3 cb b6 co;obtain⟨n,b1⟩:∃n,ao.length=n:=⟨_,rfl⟩;rw[b1]at b6 b0|-;have bb:=U b1;have cc:=U b0;clear bx b4 b1 b3 b0;simp only[TV.agg];go_enter func26,ntmps26;obtain⟨⟨h,m,q,s,C,F⟩,⟨G,ad,am,a9,a',ba⟩⟩:=ac.out.box.load;go_wp2_with fail;refine(cc.out _ ac.out.tab (b7.out.below ac.out.ab)).mono ?_;rintro e w1 ⟨rfl,cC⟩;have cd:Hid (w.heap.size+1<=w1.heap.size):=UB;replace ac:=U (ac.out.step cC);clear cC h m q s C F G ad am a9 a' ba;by_cases bl:A=0
 ·subst bl;have cy:n<=4096:=Pv;have bv:Hid (Av T=0):=(CN co.out).1;have i5:Hid (ao.all AA=true):=(CN co.out).2.2;have ce:Hid (BA T.ag=true):=OV (CO bv.out).2.1;go_wp2;go_loopw[8,19] (λu i wr=>∃k:Nat,k<=n/\i=.int .i64 k/\Hid (Ak wr (w.heap.size+1) u (AF T (ao.take k)))/\Hid (∀j,j<k->AM T (ao.getD j 0)≠0)/\Hid (Am w x T wr)/\Hid (w.heap.size+1<=wr.heap.size)) (λ_ i _=>n-(intOf i).toNat)
  case atStart=>exact⟨0,Au _,rfl,by simpa[Hid,AF] using Ak.nil _ _,λj ed=>O,ac,cd⟩
  case round=>
   obtain⟨k,cD,rfl,cm,cA,bc,cf⟩:=hrel;by_cases cg:k<n
   ·have dJ:k<ao.length:=by rw[bb.out];exact cg
    obtain⟨b,ff,rfl,b8⟩:=(b7.out.below bc.out.ab) k dJ;obtain⟨c,cB⟩:∃c,ao.getD k 0=c:=⟨_,rfl⟩;rw[cB]at b8;obtain⟨z,b5⟩:∃z,Hid (AM T c=z):=⟨_,rfl⟩;have b2:=Ad0 T ao k dJ;have f9:=W8 bv.out i5.out k;rw[cB]at b2;have hO:=U b2;have ci:Hid (z≠0->∀j,j<k+1->AM T (ao.getD j 0)≠0):=λeI j ed=>AAu;have lq:Hid (z=0->ER T 0 ao=some k):=λeI=>AwF;have lv:Hid (AA c=true):=AzI;have km:=U f9;clear cB b2 f9 cA dJ;obtain⟨⟨h,m,q,s,C,F⟩,⟨G,ad,am,a9,a',ba⟩⟩:=bc.out.box.load;go_wp2_with fail;refine(Ub x T c z _ bc.out.tab ce.out b5).mono ?_;rintro e w2 ⟨rfl,be⟩;have dL:=U (bc.out.step be);have iF:=U (cm.out.below be);have iM:w.heap.size+1<=w2.heap.size:=Af cf.out be.size;clear be cm bc b8 h m q s C F G ad am a9 a' ba;by_cases eI:z=0
    ·have ev:(z==0)=true:=by simp[eI]
     exact AyD
    ·have ev:(z==0)=false:=by simp[eI]
     have lu:=U (ci.out eI);by_cases e':z=3
     ·have cj:(z==3)=true:=by simp[e']
      obtain⟨X,eE⟩:∃X,Hid (FP T c=X):=⟨_,rfl⟩;have kp:Hid (AF T (ao.take (k+1))=AF T (ao.take k)++X):=AwU;have cl:Hid (X.length<=18):=AvZ;obtain⟨⟨h,m,q,s,C,F⟩,⟨G,ad,am,a9,a',ba⟩⟩:=dL.out.box.load;clear eI e';go_wp2_with fail;refine(Asw x T c X _ dL.out.tab eE).mono ?_;rintro e w3 ⟨cp,cq,cr,rfl,b9,cs,b',bs⟩;have dF:=U (dL.out.step bs);have jY:=U (iF.out.below bs);have ko:w.heap.size+1<=w3.heap.size:=Af iM bs.size;have cu:=U b9;have cv:=U b';clear bs b9 cs b' h m q s C F G ad am a9 a' ba;go_wp2_with (at_builtin;(refine De (.tmp 32) (.tmp 35) rfl rfl (w.heap.size+1) u8 (AF T (ao.take k)) rfl jY.out cp cq cr X cu.out rfl cv.out (by have:=km.out;have:=cl.out;omega) ko ?_);intro v4 eC iC e8);exact AxX
     ·have cj:(z==3)=false:=by simp[e']
      by_cases kl:z=1\/z=4
      ·have kp:Hid (AF T (ao.take (k+1))=AF T (ao.take k)++[c]):=by unfold Hid;rw[hO.out,AdV Ai5]
       rcases kl with bt|bt
       ·have d_:(z==1)=true:=by rw[bt];decide
        exact AzR
       ·have d_:(z==1)=false:=by rw[bt];decide
        have cx:(z==4)=true:=by rw[bt];decide
        exact AzR
      ·have d_:(z==1)=false:=by simp;omega
       have cx:(z==4)=false:=Ae;exact Az3
   ·exact AxI
 ·exact Ax_
end Go.Proofs.YtblcoicaeeiojaaGreatDoor
