/- table: rule 5. table: ex -/
import Derived.Test.YtblcoicaeeiojaaGreatDoorSOaPmTabK
set_option linter.all false
set_option maxHeartbeats 8000000
set_option maxRecDepth 100000
open Go.Proofs.Tryz
namespace Go.Proofs.YtblcoicaeeiojaaGreatDoor
open Go.RowKit
def Als(v:Int)(a b:List Sp):D7 v (a++b)=D7 v a+D7 v b:=by
 induction a with
 | nil=>simp[D7]
 | cons s r c=>simp only[CH,D7,c];omega
def SW(v:Int)(a:List Sp)(s:Sp):D7 v (a++[s])=D7 v a+if s.2.2=v then s.2.1-s.1+1 else 0:=by
 rw[Als];simp[D7]
def AbV{k8 v:Int}{l:List Sp}(h:AH k8 l=true):0<=D7 v l/\D7 v l<=ends k8 l-k8:=by
 induction l generalizing k8 with
 | nil=>simp[D7,ends]
 | cons s r b=>rw[Ji]at h;have:=b h.2.2.2;simp only[D7,ends];split<;>omega
def Alr(G:Value)(l:List Sp)(x:Int)(w:World)(bd:Cw w G l)(L:AH 0 l=true):Calls prog 209 #[G,.int .i64 x] w (Ar (.int .i64 (D7 x l)) w):=by
 obtain⟨p,b2,rfl,ac,be⟩:=bd;obtain⟨n,m⟩:∃n,l.length=n:=⟨_,rfl⟩;rw[m]at be|-;have bl:=U ac;have ad:=U m;have q:=U L;clear ac m L;go_enter func209,ntmps209;go_wp2;go_loopw[5,10] (λv i wr=>∃k:Nat,k<=n/\i=.int .i64 k/\(∃z:Int,0<=z/\z<=1114112/\v=.int .i64 z/\Hid (D7 x (l.take k)=z))/\Hid (Below w.heap.size w wr)) (λ_ i _=>n-(intOf i).toNat)
 case atStart=>exact⟨0,Au _,rfl,⟨0,O,O,rfl,rfl⟩,Al _ _⟩
 case round=>
  obtain⟨k,b3,rfl,⟨z,bs,bt,rfl,am⟩,e⟩:=hrel;by_cases bv:k<n
  ·have A:k<l.length:=by rw[ad.out];exact bv
   obtain⟨b,ff,rfl,a9,a',ba⟩:=(bl.out.below e.out) k A;obtain⟨a1,a2,a3⟩:=Aa9 q.out k A;have bb:=AbV (v:=x) (SL (k+1) q.out);have bc:=AcF (SL (k+1) q.out) O;have c:D7 x (l.take (k+1))=z+if(l.getD k A_).2.2=x then(l.getD k A_).2.1-(l.getD k A_).1+1 else 0:=by rw[JE l k A,SW,am.out]
   obtain⟨⟨f,t,v⟩,C⟩:∃s,l.getD k A_=s:=⟨_,rfl⟩;rw[C]at a9 a' ba a1 a2 a3 c;simp only at a9 a' ba a1 a2 a3 c;by_cases h:v=x
   ·have bx:(v==x)=true:=by simp[h]
    rw[N h]at c;have b0:z+(t-f+1)<=1114112:=O;have F:=U c;clear C c bb bc h;go_wp2;go_roundw
    case rel=>exact⟨k+1,O,An,⟨z+(t-f+1),O,b0,An,F⟩,e.out.alloc e.out.size _⟩
    case measure=>simp[intOf];omega
   ·have bx:(v==x)=false:=by simp[h]
    rw[V h,Int.add_zero]at c;have F:=U c;clear C c bb bc h;go_wp2;go_roundw
    case rel=>exact⟨k+1,O,An,⟨z,bs,bt,rfl,F⟩,e.out.alloc e.out.size _⟩
    case measure=>simp[intOf];omega
  ·obtain rfl:k=n:=by omega
   have b1:Hid (D7 x l=z):=by
    unfold Hid;rw[<-am.out,AO (BW ad.out)]
   go_wp2;go_ret;rw[b1.out];exact⟨rfl,e.out⟩
def Alt(b: Value)(l: List Sp)(x z: Int)(w: World)(c: Cw w b l)(e: AH 0 l = true)(h: Hid (D7 x l = z)) :
  Calls prog 209 #[b,.int .i64 x] w (Ar (.int .i64 z) w):=h.out▸Alr b l x w c e
theorem AS.load{w:World}{g:Nat}{x:TV}(h:AS w g x):(w.cell? ⟨g,0,none⟩=some x.a0/\w.cell? ⟨g,1,none⟩=some x.a1/\w.cell? ⟨g,2,none⟩=some x.a2/\w.cell? ⟨g,3,none⟩=some x.a3/\w.cell? ⟨g,4,none⟩=some x.a4/\w.cell? ⟨g,5,none⟩=some x.a5)/\
 (w.cell? ⟨g,6,none⟩=some x.a6/\w.cell? ⟨g,7,none⟩=some x.a7/\w.cell? ⟨g,8,none⟩=some x.a8/\w.cell? ⟨g,9,none⟩=some x.a9/\w.cell? ⟨g,10,none⟩=some x.aB/\w.cell? ⟨g,11,none⟩=some x.ax):=h
def Ad2{T:Y}{f:Int}{y:List Int}:Gw T (f,y)=(decide (AM T f=3)&&y.all (Hu T)):=rfl
def Apu(x:TV)(T:Y)(w:World)(bc:Ah w x T)(b1:AH 0 T.ag=true):Calls prog 144 #[x.agg] w (Ar (.bool (r5 T)) w):=by
 obtain⟨a0,a1,a2,a3,a4,a5,b2,b3,da,b4,ce,cj⟩:=x;obtain⟨pm,bd,be,cl,cB⟩:=bc.map;obtain⟨n,G⟩:∃n,T.map.length=n:=⟨_,rfl⟩;rw[G]at be cB;simp only at be;subst be;have cC:=U (Am.new bc);have bl:=U b1;have bb:=U G;have cD:=U cl;obtain⟨L,cm⟩:∃L,Hid (D7 3 T.ag=L):=⟨_,rfl⟩;have cF:Hid (T.map.all (Gw T)=true->r5 T=decide ((n:Int)=L)):=λh=>by
  unfold r5;rw[h,cm.out,G,BG,Gd];simp;omega
 have cO:Hid (T.map.all (Gw T)=false->r5 T=false):=λh=>by unfold r5;rw[h];rfl
 clear bc b1 G cl;simp only[TV.agg];go_enter func144,ntmps144;go_wp2;go_loopw[11] (λi wr=>∃k:Nat,k<=n/\i=.int .i64 k/\Hid ((T.map.take k).all (Gw T)=true)/\Hid (Am w ⟨a0,a1,a2,a3,a4,a5,b2,b3,.slice pm n bd,b4,ce,cj⟩ T wr)) (λi _=>n-(intOf i).toNat)
 case atStart=>exact⟨0,Au _,rfl,DH,cC⟩
 case round=>
  obtain⟨k,db,rfl,cI,ac⟩:=hrel;by_cases c2:k<n
  ·have co:k<T.map.length:=by rw[bb.out];exact c2
   obtain⟨b,ff,v,rfl,bs,ad,am,bt,rfl,C,bv⟩:=(cD.out.below ac.out.ab) k co;have cu:=Fj (Gw T) T.map k Ay co;rw[cI.out,BG]at cu;have F:Gw T (T.map.getD k Ay)=false->r5 T=false:=λh=>cO.out (D4 _ T.map (k+1) RG);obtain⟨⟨f,y⟩,cp⟩:∃s,T.map.getD k Ay=s:=⟨_,rfl⟩;rw[cp]at bs ad cu F C bv;simp only at bs ad cu F C bv;rw[Ad2]at cu F;obtain⟨m,bx⟩:∃m,y.length=m:=⟨_,rfl⟩;rw[bx]at ad bv;have hO:=U cu;have eV:=U F;have dc:=U C;have kE:=U bx;have b0:=U (ac.out.step ((Al _ _).alloc (Ac _) (.cells #[.int .i64 f,.slice am m bt] 73)));have c3:=U (Gi.new wr f (.slice am m bt) 73);have c4:=U (BE.alloc C (.cells #[.int .i64 f,.slice am m bt] 73));obtain⟨z,b5⟩:∃z,Hid (AM T f=z):=⟨_,rfl⟩;clear cp cu F C bx;have q:=b0.out.box;simp only[AS]at q;obtain⟨⟨cf,b8,b',b9,cd,b6⟩,⟨ci,cb,b7,ca,cc,cg⟩⟩:=q;go_wp2_with fail;refine(Um _ T f z _ b0.out.tab bl.out b5).mono ?_;rintro e w2 ⟨rfl,A⟩;have dL:=U (b0.out.step A);have c5:=U (c3.out.below A);have c6:=U (c4.out.below A);clear A cf b8 b' b9 cd b6 ci cb b7 ca cc cg bs ad;by_cases e':z=3
   ·have iE:(z !=3)=false:=by simp[e']
    have dx:Hid (AM T f=3):=b5.out.trans e';have cq:=c5.out;simp only[Gi]at cq;obtain⟨c7,c8⟩:=cq;clear e';go_wp2;obtain⟨cr,rfl⟩:∃cr:World,cr=w2:=⟨_,rfl⟩;go_loopw[23] (λi cs=>∃j:Nat,j<=m/\i=.int .i64 j/\Hid ((y.take j).all (Hu T)=true)/\Hid (Am w ⟨a0,a1,a2,a3,a4,a5,b2,b3,.slice (some ⟨b,ff,none⟩) n bd,b4,ce,cj⟩ T cs)/\Hid (Aq cs am y)) (λi _=>m-(intOf i).toNat)
    case atStart=>exact⟨0,Au _,rfl,DH,dL,c6⟩
    case round=>
     obtain⟨j,df,rfl,kC,fz,kD⟩:=hrel;clear c7 c8;by_cases c9:j<m
     ·have ct:j<y.length:=by rw[kE.out];exact c9
      obtain⟨dj,dk,rfl,jd⟩:=kD.out j ct;have a9:=Fj (Hu T) y j 0 ct;rw[kC.out,BG]at a9;obtain⟨c,cv⟩:∃c,y.getD j 0=c:=⟨_,rfl⟩;rw[cv]at jd a9;have fG:=U a9;obtain⟨u,cx⟩:∃u,Hid (AM T c=u):=⟨_,rfl⟩;have cy:Hu T c=(decide (u=1)||decide (u=4)):=by rw[Hu,cx.out]
      have lU:=U cy;have q:=fz.out.box;simp only[AS]at q;obtain⟨⟨cf,b8,b',b9,cd,b6⟩,⟨ci,cb,b7,ca,cc,cg⟩⟩:=q;clear cv a9 cy;go_wp2_with fail;refine(Um _ T c u _ fz.out.tab bl.out cx).mono ?_;exact Az0
     ·exact AAf
   ·exact AyE
  ·obtain rfl:k=n:=by omega
   have d8:Hid (T.map.all (Gw T)=true):=UD;have c':=U (cF.out d8.out);have cA:=ac.out.step (Bx wr);have ba:=U cA;have q:=ac.out.box;simp only[AS]at q;obtain⟨⟨_,_,_,_,_,b6⟩,⟨_,_,b7,_,_,_⟩⟩:=q;clear cA;go_wp2_with fail;go_region_held3 (λw'=>w'.cell? ⟨w.heap.size,5,none⟩=some a5/\w'.cell? ⟨w.heap.size,8,none⟩=some (.slice pm k bd))
    (first
     | go_keep
     | exact⟨(ba.out.step A).aV,(ba.out.step A).at8⟩)
    (first
     | (go_at_call 209;(with_reducible refine(Alt a5 T.ag 3 L _ ba.out.tab.ag bl.out cm).mono ?_);rintro e w2 ⟨rfl,A⟩))
   all_goals
    go_wp2;go_ret;exact⟨Lo (by rw[c'.out];simp),(ba.out.step A).ab⟩
structure Gn (w0 w:World) (g h:Nat) (p:Option Addr) (n c:Nat) (S:List Int):Prop where
 dec:w.cell? ⟨g,0,none⟩=some (.slice p n c)
 ck:w.cell? ⟨g,1,none⟩=some (.slice (some ⟨h,0,none⟩) n n)
 bG:∀i,i<n->w.cell? ⟨h,i,none⟩=some (.int .i64 (S.getD i 0))
 bU:∀i,i<n->w.frozen? ⟨h,i,none⟩=false
 len:S.length=n
 ab:Below w0.heap.size w0 w
 bA:h<w.heap.size
 bw:g<w.heap.size
theorem Gn.below{w0 w w':World}{g h n c:Nat}{p:Option Addr}{S:List Int}(s:Gn w0 w g h p n c S)(b:Below w.heap.size w w'):Gn w0 w' g h p n c S:=
 ⟨(b.cell (p:=⟨g,0,none⟩) s.bw).trans s.dec,(b.cell (p:=⟨g,1,none⟩) s.bw).trans s.ck,λi dI=>(b.cell (p:=⟨h,i,none⟩) s.bA).trans (s.bG i dI),λi dI=>(b.frozen (p:=⟨h,i,none⟩) s.bA).trans (s.bU i dI),s.len,
  s.ab.trans (b.mono s.ab.size),Ci s.bA b.size,Ci s.bw b.size⟩
theorem Gn.set{w0 w:World}{g h n c:Nat}{p:Option Addr}{S:List Int}(s:Gn w0 w g h p n c S)(e:g≠h)(m:w0.heap.size<=h)(i:Nat)(dI:i<n)(v:Int):Gn w0 (w.setCell ⟨h,i,none⟩ (.int .i64 v)) g h p n c (S.set i v):=by
 have q:=s.len;refine⟨(AY _ _ _ _ (by simp[e])).trans s.dec,(AY _ _ _ _ (by simp[e])).trans s.ck,λj b=>?_,λj b=>(DC _ _ _ _).trans (s.bU j b),by rw[JV,q],
  s.ab.setCell (p:=⟨h,i,none⟩) m _,by simpa[World.setCell] using s.bA,by simpa[World.setCell] using s.bw⟩
 rw[Tl S i j v O];by_cases k:j=i
 ·subst k;rw[N rfl];exact E7 _ _ _ (s.bG j b)
 ·rw[V k];exact(AY _ _ _ _ (by first|(simp;done)|(simp;omega))).trans (s.bG j b)
def Wq{w w':World}{h:Nat}(b:Below w.heap.size w w'):w.grownBy w' (some h):=G4 b _
def To{w w1 w2:World}{row:Option Nat}(h:w.grownBy w1 row)(k:w1.grownBy w2 row):w.grownBy w2 row:=
 ⟨k.os.trans h.os,k.tape.trans h.tape,k.output.trans h.output,Af h.size k.size,λi dI b=>(k.block i (Ci dI h.size) b).trans (h.block i dI b)⟩
def AjP(w0:World)(g h:Nat)(p:Option Addr)(n c:Nat)(l:List Mp)(S:List Int)(z:Nat)(w:World)(e:Ending)(w':World):Prop:=
 ∃b,e=.returned (.int .i64 z)/\Gn w0 w' g h p n c b/\Fg l S b/\w.grownBy w' (some h)
def AtH(w0:World)(g h:Nat)(p:Option Addr)(n A:Nat)(l:List Mp)(cq:l.length=n)(dm:n<=256)(k:J6 w0 p l)(cr:AL 0 1114111 (AC l)=true)(cs:∀m∈l,m.2.length<=2)(ct:∀m∈l,m.2≠[])(b9:w0.heap.size<=h)(dn:g≠h)(N:Nat):∀(S:List Int) (c:Int) (w:World),Hi S<=N->Gn w0 w g h p n A S->Kn l S c->Calls prog 211 #[.pointer (some ⟨g,0,none⟩),.int .i64 c] w (AjP w0 g h p n A l S (A' l c) w):=by
 have bt:=U k;have cF:=U cq;have cu:=U cr;have dq:=U cs;have ds:=U ct;have b':=U dn;clear k cq cr cs ct
 induction N using Nat.strongRecOn with
 | _ N cv =>
  have dx:=U cv;clear cv;intro S c w cx ca cy;have ad:=U ca;have cA:=U cy;have cB:=U cx;clear cy cx;cases q:AP l c with
  | false =>
   have bx:=U q;have bv:Hid (A' l c=1):=Re (FN q);obtain⟨am,a9,_,_,_,_,_,_⟩:=ca;clear q;go_enter func211,ntmps211;go_wp2_with fail;refine(Lm (.slice p n A) l c _ ⟨p,A,by rw[cF.out],bt.out.below ad.out.ab,LP⟩ cu.out).mono ?_;rintro e w1 ⟨i,rfl,dI,_,C⟩;have a':=U C;clear C;rw[bx.out];go_wp2;go_ret;exact⟨S,KK,ad.out.below a'.out,Fg.refl _ _,Wq a'.out⟩
  | true =>
   have bx:=U q;obtain⟨am,a9,_,_,_,_,_,_⟩:=ca;clear q;go_enter func211,ntmps211;go_wp2_with fail;refine(Lm (.slice p n A) l c _ ⟨p,A,by rw[cF.out],bt.out.below ad.out.ab,LP⟩ cu.out).mono ?_;rintro e w1 ⟨i,rfl,dI,cC,C⟩;obtain⟨b0,cD,cb⟩:=cC bx.out;rw[bx.out];have k:i<n:=by rw[<-cF.out];exact b0
   have cc:=U (ad.out.below C);have a':=U C;have ba:Hid (i<S.length):=by unfold Hid;rw[ad.out.len];exact k
   have b1:=U cD;clear C am a9 cC dI cD;obtain⟨am,a9,bb,bc,_,_,_,_⟩:=cc.out;have b2:=bb i k;have cd:=bc i k;clear bb bc;obtain⟨s,F⟩:∃s,S.getD i 0=s:=⟨_,rfl⟩;rw[F]at b2;by_cases G:s=0
   ·have dy:(s==0)=true:=by simp[G]
    have ce:Hid (S.getD i 0=0):=F.trans G;have cI:Hid (Hi (S.set i 19)+1=Hi S):=Ahf S i 19 ba.out ce.out O;have cf:=TF l i b0;have cg:=U (dq.out _ cf);have cO:=U (ds.out _ cf);have b3:=U cb;have b4:=U (cc.out.set b'.out b9 i k 19);have dz:=U (To (Wq a'.out) (Uk w1 h i (.int .i64 19)));obtain⟨b,ff,v,rfl,dE,b5,dF,dU,rfl,c2,c3⟩:=(bt.out.below (b4.out.ab)) i b0;obtain⟨y,b6⟩:∃y,(l.getD i Ay).2=y:=⟨_,rfl⟩;rw[b6]at b5 c2 c3 cg cO b3;obtain⟨m,q⟩:∃m,y.length=m:=⟨_,rfl⟩;rw[q]at b5 c3 cg;have dV:=cg.out;have c4:=U q;have dG:Hid (Aq w0 dF y):=by
     obtain⟨dW,dX,dY,ci,r1,r2,dZ,d0,dH,r4,_⟩:=bt.out i b0;have dJ:=b4.out.ab;have cj:=AN w0 _ r2;injection ci with ci;injection ci with dK dL;subst dK;subst dL;have bd:=(dJ.cell (p:=⟨b,ff+i*2+1,none⟩) cj).trans r2;rw[b5]at bd;injection bd with bd;rw[dH,b6]at bd;injection bd with dM _ _;subst dM;rw[b6]at r4;exact r4
    obtain⟨dN,dO,_,_,_,_,_,_⟩:=b4.out;clear F G cb b6 q cf c2;go_wp2;go_loopw[7,44] (λvv cl wr=>∃(j:Nat) (L:List Int) (t:Nat),j<=m/\cl=.int .i64 j/\vv=.int .i64 t/\t<=19*j/\Hid (Rg l (y.take j)=t)/\Hid (Gn w0 wr g h (some ⟨b,ff,none⟩) n A L)/\Hid (Fg l (S.set i 19) L)/\Hid (w.grownBy wr (some h))) (λ_ cl _=>m-(intOf cl).toNat)
    case atStart=>exact⟨0,S.set i 19,0,Au _,rfl,rfl,O,rfl,b4,Fg.refl _ _,dz⟩
    case round=>
     clear b2 cd am a9 dE b5 dN dO;obtain⟨j,L,t,d1,rfl,rfl,d2,c5,be,bl,cm⟩:=hrel;by_cases cj:j<m
     ·have co:j<y.length:=by rw[c4.out];exact cj
      obtain⟨d3,d4,rfl,c6⟩:=(dG.out.below be.out.ab) j co;have b7:Rg l (y.take (j+1))=t+A' l (y.getD j 0):=by rw[C4 y j co,At8,c5.out]
      have bs:y.getD j 0∈As l c:=by rw[b3.out];simp[co]
      obtain⟨d,c7⟩:∃d,y.getD j 0=d:=⟨_,rfl⟩;rw[c7]at c6 b7 bs;have dP:=Rd l d;have c8:=cA.out.part ba.out b1.out bs bl.out;have c9:Hi L<=N-1:=by
       have:=bl.out.dD;have:=cI.out;have:=cB.out;omega
      have c':N-1<N:=by have:=cI.out;have:=cB.out;omega
      have cp:=U (dx.out (N-1) c' L d _ c9 be.out c8);obtain⟨u,da⟩:∃u,A' l d=u:=⟨_,rfl⟩;rw[da]at b7 dP cp;have dQ:=U b7;clear c7 bs c8 c9 c' b7 da;go_wp2_with fail;refine cp.out.mono ?_;rintro e w3 ⟨dR,rfl,db,dc,df⟩;have dS:=U db;have dT:=U (bl.out.trans dc);have k3:=U (To cm.out df);clear db dc df c6 cp;go_wp2;go_roundw
      case rel=>exact⟨j+1,dR,t+u,O,An,An,O,dQ,dS,dT,k3⟩
      case measure=>simp[intOf];omega
     ·obtain rfl:j=m:=by omega
      have dj:A' l c=min 19 t:=by
       rw[X_ (by rw[cF.out];exact dm) (by rw[b3.out];exact cO.out),b3.out];have:=c5.out;rw[AO (BW c4.out)]at this;rw[<-this];rfl
      have b8:=U dj;obtain⟨am,a9,bb,bc,d5,_,_,_⟩:=be.out;have b2:=bb i k;have cd:=bc i k;obtain⟨d6,dk⟩:∃s,L.getD i 0=s:=⟨_,rfl⟩;rw[dk]at b2;clear bb bc dk dj;by_cases d7:19<t
      ·have bs:decide ((19:Int)<(t:Int))=true:=At O;have bv:Hid (((19:Int))=A' l (Lr l i)):=by show (19:Int)=A' l (l.getD i Ay).1;rw[b1.out,b8.out];omega
       have mt:Hid ((A' l c:Int)=19):=by unfold Hid;rw[b8.out];omega
       have ac:=U (Fg.done ba.out ce.out bl.out bv.out);have eh:=U (be.out.set b'.out b9 i k 19);have k3:=U (To cm.out (Uk wr h i (.int .i64 19)));exact Awj
      ·have bs:decide ((19:Int)<(t:Int))=false:=Ai O;have bv:Hid (((t:Int))=A' l (Lr l i)):=by show (t:Int)=A' l (l.getD i Ay).1;rw[b1.out,b8.out];omega
       have mt:Hid ((A' l c:Int)=t):=by unfold Hid;rw[b8.out];omega
       have ac:=U (Fg.done ba.out ce.out bl.out bv.out);have eh:=U (be.out.set b'.out b9 i k t);have k3:=U (To cm.out (Uk wr h i (.int .i64 t)));exact Awj
   ·have dy:(s==0)=false:=by simp[G]
    have bv:Hid ((A' l c:Int)=s):=by
     unfold Hid;rw[<-F];exact(cA.out.found ba.out b1.out (by rw[F];exact G)).symm
    clear G F cb cd;go_wp2;go_ret;exact⟨S,KK,cc.out,Fg.refl _ _,Wq a'.out⟩
def Ate(c:Nat)(m:c<=4194304)(w:World):(Instr.makeSlice 22 (.int .i64 (c:Int)) (.int .i64 (c:Int))).run prog w=.ok (.slice (some ⟨w.heap.size,0,none⟩) c c) (w.alloc (Hs c)):=by
 obtain⟨b,dI,e,k,dE⟩:=Cp info3;have h:=Af5 (P:=prog) 22 3 b _ underlying22 dI e .i64 .i64 c c (Ac _) I3 O w;rw[k]at h;exact h
def AdQ(w:World)(n i:Nat)(dI:i<n):(w.alloc (Hs n)).cell? ⟨w.heap.size,i,none⟩=some (.int .i64 0):=by
 unfold Hs;rw[Cy];simp[madeCells,dI,Nat.mod_one,Value.cells]
def Auo(w:World):G3 210 #[] D9 w:=λc W _=>(Am4 c W).mono λe w' h=>⟨h.1,by rw[h.2];exact Al _ _⟩
def Amq:∀args w,(callFunc 210 args).run prog w=.ok (.enter 210 args) w:=Proofs.enters_of func210 Ax rfl
def AtD{f:Int}{y:List Int}{m:Nat}{B:Bool}(b:y.length=m)(c:y.any D9=B):EH (f,y)=(decide (m<=2) && !B):=by
 rw[EH,<-TI c,b]
theorem Gn.new{w0 w:World}{g h n c:Nat}{p:Option Addr}(d:w.cell? ⟨g,0,none⟩=some (.slice p n c))(s:w.cell? ⟨g,1,none⟩=some (.slice (some ⟨h,0,none⟩) n n))(b:∀i,i<n->w.cell? ⟨h,i,none⟩=some (.int .i64 0))(e:∀i,i<n->w.frozen? ⟨h,i,none⟩=false)(k:Below w0.heap.size w0 w)(m:h<w.heap.size):Gn w0 w g h p n c (List.replicate n 0):=
 ⟨d,s,λi dI=>by rw[b i dI];simp[List.getD,dI],e,J,k,m,AN w _ d⟩
def Ank(n i:Nat):(List.replicate n (0:Int)).getD i 0=0:=by
 simp only[Cz,Vg];split<;>rfl
def K'(l:List Mp)(S:List Int):Prop:=∀i,i<S.length->S.getD i 0≠0->S.getD i 0=A' l (Lr l i)
theorem K'.new(l:List Mp)(n:Nat):K' l (List.replicate n 0):=λi _ h=>absurd (Ank n i) h
theorem K'.kn{l:List Mp}{S:List Int}(h:K' l S)(c:Int):Kn l S c:=λi dI b=>.inl (h i dI b)
theorem K'.ext{l:List Mp}{S m:List Int}(h:K' l S)(k:Fg l S m):K' l m:=λi dI q=>by
 have b:i<S.length:=by rw[<-k.1];exact dI
 by_cases c:S.getD i 0=0
 ·rcases(k.2 i b).2 c with e|e
  ·exact absurd e q
  ·exact e
 ·rw[(k.2 i b).1 c];exact h i b c
def Aug(w:World)(p:Option Addr)(k c:Nat)(t:TypeId):Gn w ((w.alloc (Hs k)).alloc (.cells #[.slice p k c,.slice (some ⟨w.heap.size,0,none⟩) k k] t)) (w.heap.size+1) w.heap.size p k c (List.replicate k 0):=by
 refine Gn.new ?_ ?_ (λi dI=>?_) (λi _=>?_) (((Al _ _).alloc (Ac _) _).alloc J _) Ae
 ·have:=Cy (w.alloc (Hs k)) #[.slice p k c,.slice (some ⟨w.heap.size,0,none⟩) k k] t;simp at this|-
 ·exact J
 ·exact(JR (w.alloc (Hs k)) _ ⟨w.heap.size,i,none⟩ J).trans (AdQ w k i dI)
 ·simp[Hs]
def Auh(w:World)(p:Option Addr)(k c:Nat)(t:TypeId):Gn w ((w.alloc (.cells #[.slice p k c,.slice (some ⟨w.heap.size+1,0,none⟩) k k] t)).alloc (Hs k)) w.heap.size (w.heap.size+1) p k c (List.replicate k 0):=by
 refine Gn.new ?_ ?_ (λi dI=>?_) (λi _=>?_) (((Al _ _).alloc (Ac _) _).alloc J _) J
 ·exact(JR _ _ ⟨w.heap.size,0,none⟩ J).trans EL
 ·exact(JR _ _ ⟨w.heap.size,1,none⟩ J).trans EL
 ·have:=AdQ (w.alloc (.cells #[.slice p k c,.slice (some ⟨w.heap.size+1,0,none⟩) k k] t)) k i dI;exact GG
 ·simp[Hs]
theorem Am.grown{w0 w w':World}{x:TV}{T:Y}{h:Nat}(e:Am w0 x T w)(q:Ah w0 x T)(c:w.grownBy w' (some h))(bc:w0.heap.size<h):Am w0 x T w':=by
 have m:Below w0.heap.size w0 w':=e.ab.grown c e.ab.size (by rintro k ⟨⟩;omega);obtain⟨⟨s,A,C,F,G,L⟩,⟨ac,ad,am,a9,a',ba⟩⟩:=e.box;have b:∀i v,w.cell? ⟨w0.heap.size,i,none⟩=some v->w'.cell? ⟨w0.heap.size,i,none⟩=some v:=λi v bb=>c.cell (a:=⟨w0.heap.size,i,none⟩) bb Ae;exact⟨q.below m,⟨⟨b _ _ s,b _ _ A,b _ _ C,b _ _ F,b _ _ G,b _ _ L⟩,⟨b _ _ ac,b _ _ ad,b _ _ am,b _ _ a9,b _ _ a',b _ _ ba⟩⟩,m⟩
def AmS(x:TV)(T:Y)(w:World)(ba:Ah w x T)(b0:T.dec.length<=256)(b1:AL 0 1114111 (AC T.dec)=true)(b2:∀m∈T.dec,m.2≠[]):Calls prog 145 #[x.agg] w (Ar (.bool (r6 T)) w):=by
 obtain⟨a0,a1,a2,a3,a4,a5,b3,b4,b5,ds,b6,b7⟩:=x;obtain⟨pm,q,ad,b8,cD⟩:=ba.dec;obtain⟨n,bs⟩:∃n,T.dec.length=n:=⟨_,rfl⟩;rw[bs]at ad cD b0;simp only at ad;subst ad;have cF:=U (Am.new ba);have cO:=U ba;have c2:=U b1;have bb:=U bs;have b9:=U b8;have c3:=U b2;have bc:=Ate n O;have c4:=U bc;have c5:Hid (T.dec.all EH=false->r6 T=false):=λh=>by unfold r6;rw[h];rfl
 clear ba b1 bs b8 b2 bc;simp only[TV.agg];go_enter func145,ntmps145;go_wp2;go_loopw[11] (λi wr=>∃k:Nat,k<=n/\i=.int .i64 k/\Hid ((T.dec.take k).all EH=true)/\Hid (Am w ⟨a0,a1,a2,a3,a4,a5,b3,b4,b5,.slice pm n q,b6,b7⟩ T wr)) (λi _=>n-(intOf i).toNat)
 case atStart=>exact⟨0,Au _,rfl,DH,cF⟩
 case round=>
  obtain⟨k,dx,rfl,cI,am⟩:=hrel;by_cases c6:k<n
  ·have b':k<T.dec.length:=by rw[bb.out];exact c6
   obtain⟨b,ff,v,rfl,F,A,G,L,rfl,bd,be⟩:=(b9.out.below am.out.ab) k b';have cu:=Fj EH T.dec k Ay b';rw[cI.out,BG]at cu;have a9:EH (T.dec.getD k Ay)=false->r6 T=false:=λh=>c5.out (D4 _ T.dec (k+1) RG);obtain⟨⟨f,y⟩,a'⟩:∃s,T.dec.getD k Ay=s:=⟨_,rfl⟩;rw[a']at F A cu a9 bd be;simp only at F A cu a9 bd be;obtain⟨m,C⟩:∃m,y.length=m:=⟨_,rfl⟩;obtain⟨B,ca⟩:∃B,Hid (y.any D9=B):=⟨_,rfl⟩;rw[AtD C ca.out]at cu a9;rw[C]at A be;have c7:=U cu;have cb:=U a9;have hS:=U (am.out.step ((Al _ _).alloc (Ac _) (.cells #[.int .i64 f,.slice G m L] 73)));have c8:Hid (Bp (wr.alloc (.cells #[.int .i64 f,.slice G m L] 73)) (.slice G m L) y):=⟨G,L,by rw[C],BE.alloc bd _,by rw[C];exact be⟩;clear a' cu a9 bd C;by_cases dy:2<m
   ·have c9:decide ((2:Int)<(m:Int))=true:=At O;have fq:=U (cb.out Ae);exact AiO
   ·have c9:decide ((2:Int)<(m:Int))=false:=Ai O;go_wp2_with fail;refine(Qh _ y 210 #[] D9 B _ c8.out (Auo _) Amq ca).mono ?_;rintro e w2 ⟨rfl,cc⟩;have dL:=U (hS.out.step cc);clear cc;cases B with
    | true =>
     have fq:=U (cb.out J);exact Z6
    | false =>
     have bl:Hid ((T.dec.take (k+1)).all EH=true):=by unfold Hid;rw[c7.out];simp;omega
     go_wp2;go_roundw
     case rel=>exact⟨k+1,O,An,bl,dL⟩
     case measure=>simp[intOf];omega
  ·obtain rfl:k=n:=by omega
   have bl:Hid (T.dec.all EH=true):=UD;have cd:Hid (r6 T=T.dec.all λm=>decide (A' T.dec m.1<=18)):=by unfold Hid r6;rw[bl.out];rfl
   have c':Hid (∀m∈T.dec,m.2.length<=2):=by
    have:=bl.out;rw[AR]at this;intro m ad;have:=this m ad;simp only[EH,AJ,A4]at this;exact this.1
   obtain⟨c,rfl⟩:∃c:World,c=wr:=⟨_,rfl⟩;have ce:=U (b9.out.below am.out.ab);have cf:=am.out.box;simp only[AS]at cf;obtain⟨_,⟨_,_,_,cg,_,_⟩⟩:=cf;have bc:=c4.out;go_upto_region 7 with(fail);go_cut[5] (λv da=>∃g h,v=.pointer (some ⟨g,0,none⟩)/\Hid (Gn c da g h pm k q (List.replicate k 0))/\Hid (c.heap.size<=h)/\Hid (c.heap.size<=g)/\Hid (g≠h))
   case first=>
    go_region_held3 (λw'=>w'.cell? ⟨w.heap.size,9,none⟩=some (.slice pm k q)) (go_keep) (first|fail)
    all_goals
     go_wp2_with fail;go_meet
     first
      | exact⟨c.heap.size+1,c.heap.size,rfl,(Aug c pm k q 177).below (Bx _),Ac _,KY _,Nat.succ_ne_self _⟩
      | exact⟨c.heap.size,c.heap.size+1,rfl,(Auh c pm k q 177).below (Bx _),KY _,Ac _,(Nat.succ_ne_self _).symm⟩
   case rest=>
    obtain⟨g,h,rfl,ci,cj,dz,db⟩:=hcut;have cl:w.heap.size<c.heap.size:=AN c ⟨w.heap.size,9,none⟩ cg;have dc:=U cl;have cm:=U (am.out.step ci.out.ab);have co:=cm.out.at9;simp only at co;clear bc cg cl;go_wp2;clear co;go_loopw[35] (λi wr=>∃(j:Nat) (S:List Int),j<=k/\i=.int .i64 j/\Hid (Gn c wr g h pm k q S)/\Hid (K' T.dec S)/\Hid ((T.dec.take j).all (λm=>decide (A' T.dec m.1<=18))=true)/\Hid (Am w ⟨a0,a1,a2,a3,a4,a5,b3,b4,b5,.slice pm k q,b6,b7⟩ T wr)) (λi _=>k-(intOf i).toNat)
    case atStart=>exact⟨0,List.replicate k 0,Au _,rfl,ci,K'.new _ _,DH,cm⟩
    case round=>
     obtain⟨j,S,dE,rfl,a',cp,cq,cr⟩:=hrel;by_cases df:j<k
     ·have cs:j<T.dec.length:=by rw[bb.out];exact df
      obtain⟨b,ff,v,rfl,F,A,G,L,rfl,_,_⟩:=(ce.out.below a'.out.ab) j cs;have ac:=Fj (λm:Mp=>decide (A' T.dec m.1<=18)) T.dec j Ay cs;rw[cq.out,BG]at ac;obtain⟨⟨f,y⟩,ct⟩:∃s,T.dec.getD j Ay=s:=⟨_,rfl⟩;rw[ct]at F A ac;simp only at F A ac;obtain⟨m,C⟩:∃m,y.length=m:=⟨_,rfl⟩;rw[C]at A;obtain⟨z,bt⟩:∃z,A' T.dec f=z:=⟨_,rfl⟩;rw[bt]at ac;have cv:=U ac;have bv:Below wr.heap.size wr (wr.alloc (.cells #[.int .i64 f,.slice G m L] 73)):=(Al _ _).alloc (Ac _) _;have dj:=U (a'.out.below bv);have hS:=U (cr.out.step bv);have bx:=AtH c g h (some ⟨b,ff,none⟩) k q T.dec bb.out b0 ce.out c2.out c'.out c3.out cj.out db.out (Hi S) S f _ (Ac _) dj.out (cp.out.kn f);rw[bt]at bx;have cx:=U bx;clear ct ac bt C bv bx;go_wp2_with fail;refine cx.out.mono ?_;rintro e w3 ⟨dk,rfl,cy,cA,cB⟩;have dm:=U cy;have dn:=U (cp.out.ext cA);have cC:w.heap.size<h:=Ci dc.out cj.out;have dF:=U (hS.out.grown cO.out cB cC);clear cy cA cB cx F A cC;by_cases dG:18<z
      ·have d:decide ((18:Int)<(z:Int))=true:=At O;have fq:Hid (r6 T=false):=by
        unfold Hid;rw[cd.out];exact D4 _ T.dec (j+1) (by rw[cv.out];simp;omega)
       go_wp2;exact Ajq
      ·have d:decide ((18:Int)<(z:Int))=false:=Ai O;have dq:Hid ((T.dec.take (j+1)).all (λm=>decide (A' T.dec m.1<=18))=true):=by unfold Hid;rw[cv.out];simp;omega
       go_wp2;go_roundw
       case rel=>exact⟨j+1,dk,O,An,dm,dn,dq,dF⟩
       case measure=>simp[intOf];omega
     ·obtain rfl:j=k:=by omega
      have fq:Hid (r6 T=true):=by
       unfold Hid;rw[cd.out];have:=cq.out;rwa[AO (BW bb.out)]at this
      go_wp2;go_ret;rw[fq.out];exact⟨rfl,cr.out.ab⟩
def NG(T:Y)(c:Int):Bool:=!AP T.dec c
def Amy(c:Int)(g:Nat)(x:TV)(T:Y)(w:World)(m:AS w g x)(b:Ah w x T)(h:AL 0 1114111 (AC T.dec)=true):Calls prog 212 #[.int .i64 c,.pointer (some ⟨g,0,none⟩)] w (Ar (.bool (NG T c)) w):=by
 obtain⟨B,k⟩:∃B,Hid (AP T.dec c=B):=⟨_,rfl⟩;have bb:Hid (NG T c = !B):=by unfold Hid NG;rw[k.out]
 have q:=U b;have s:=U h;obtain⟨⟨A,C,F,G,L,ac⟩,⟨ad,am,a9,a',ba,bc⟩⟩:=m;clear b h;go_enter func212,ntmps212;go_wp2_with fail;refine(Wr x T c B _ q.out s.out k).mono ?_;exact Ay1
def Aun(g:Nat)(x:TV)(T:Y)(w:World)(e:AS w g x)(h:Ah w x T)(k:AL 0 1114111 (AC T.dec)=true):G3 212 #[.pointer (some ⟨g,0,none⟩)] (NG T) w:=
 λc W b=>Amy c g x T W (e.below b) (h.below b) k
def Amo:∀args w,(callFunc 212 args).run prog w=.ok (.enter 212 args) w:=Proofs.enters_of func212 Ax rfl
def Amz(x:TV)(T:Y)(w:World)(h:Ah w x T)(k:AL 0 1114111 (AC T.dec)=true):Calls prog 146 #[x.agg] w (Ar (.bool (r7 T)) w):=by
 have b:=U (Am.new h);have s:=U k;obtain⟨B,m⟩:∃B,Hid (T.af.any (NG T)=B):=⟨_,rfl⟩;have A:Hid (r7 T = !B):=by
  unfold Hid;rw[<-TI m.out,r7];congr 1;funext c;simp[NG]
 clear h k;simp only[TV.agg];go_enter func146,ntmps146;go_wp2_with fail;refine(Qh x.aB T.af _ _ (NG T) B _ b.out.tab.af (Aun w.heap.size x T _ b.out.box b.out.tab s.out) Amo m).mono ?_;rintro e w1 ⟨rfl,q⟩;have C:=U (b.out.step q);clear q;go_wp2;go_ret;exact⟨by rw[A.out];rfl,C.out.ab⟩
def AnU(x:TV)(T:Y)(c:Int)(B:Bool)(w:World)(b:Ah w x T)(h:AH 0 T.an=true)(ef:Hid (Mi T c=B)):Calls prog 260 #[x.agg,.int .i64 c] w (Ar (.bool B) w):=by
 have k:=U (Am.new b);have q:=U h;clear b h;simp only[TV.agg];go_enter func260,ntmps260;go_wp2_with fail;refine(We x.a6 T.an c _ k.out.tab.an q.out).mono ?_;rintro e w1 ⟨i,rfl,dI,_,m⟩;have s:=U (k.out.step m);clear m;go_wp2;go_ret;exact⟨Zq,s.out.ab⟩
def AeY(x:TV)(T:Y)(c:Int)(B:Bool)(w:World)(m:Ah w x T)(q:AL 0 1114111 (AC T.dec)=true)(dI:AH 0 T.an=true)(L:Hid (plain T c=B)):Calls prog 215 #[x.agg,.int .i64 c] w (Ar (.bool B) w):=by
 have s:=U (Am.new m);have ac:=U q;have ad:=U dI;obtain⟨k,A⟩:∃B,Hid (AP T.dec c=B):=⟨_,rfl⟩;obtain⟨C,F⟩:∃B,Hid (Mi T c=B):=⟨_,rfl⟩;have G:Hid (B=(!k && !C)):=by unfold Hid;rw[<-L.out,plain,A.out,F.out]
 clear m q dI;simp only[TV.agg];go_enter func215,ntmps215;go_wp2_with fail;refine(Wr x T c k _ s.out.tab ac.out A).mono ?_;rintro e w1 ⟨rfl,b⟩;have h:=U (s.out.step b);clear b;cases k with
 | true =>
  go_wp2;go_ret;exact⟨by rw[G.out];rfl,h.out.ab⟩
 | false =>
  obtain⟨⟨am,a9,a',ba,bb,bc⟩,⟨bd,be,bl,bs,bt,bv⟩⟩:=h.out.box;go_wp2_with fail;refine(AnU x T c C _ h.out.tab ad.out F).mono ?_;rintro e w2 ⟨rfl,b⟩;have bx:=U (h.out.step b);clear b am a9 a' ba bb bc bd be bl bs bt bv;go_wp2;go_ret;exact⟨by rw[G.out];rfl,bx.out.ab⟩
def OQ(T:Y)(c:Int):Bool:=!AP T.ah c&&(!Cg c&&plain T c)
def Arv{T:Y}{f:Int}{y:List Int}:Ju T (f,y)=(plain T f&&y.all (OQ T)):=rfl
def ArA(x:TV)(T:Y)(w:World)(am:Ah w x T)(cd:AL 0 1114111 (AC T.dec)=true)(ce:AL 0 1114111 (AC T.ah)=true)(cf:AH 0 T.an=true):Calls prog 148 #[x.agg] w (Ar (.bool (r9 T)) w):=by
 obtain⟨a0,a1,a2,a3,a4,a5,cg,ci,cj,cl,cm,dJ⟩:=x;obtain⟨pm,co,a9,cp,db⟩:=am.ah;obtain⟨n,a'⟩:∃n,T.ah.length=n:=⟨_,rfl⟩;rw[a']at a9 db;simp only at a9;subst a9;have dc:=U (Am.new am);have cq:=U cf;have cr:=U cd;have df:=U ce;have bb:=U a';have dj:=U cp;clear am cf cd ce a' cp;simp only[TV.agg];go_enter func148,ntmps148;go_wp2;go_loopw[12] (λi wr=>∃k:Nat,k<=n/\i=.int .i64 k/\Hid ((T.ah.take k).all (Ju T)=true)/\Hid (Am w ⟨a0,a1,a2,a3,a4,a5,cg,ci,cj,cl,cm,.slice pm n co⟩ T wr)) (λi _=>n-(intOf i).toNat)
 case atStart=>exact⟨0,Au _,rfl,DH,dc⟩
 case round=>
  obtain⟨k,dK,rfl,cI,bc⟩:=hrel;by_cases dk:k<n
  ·have cs:k<T.ah.length:=by rw[bb.out];exact dk
   obtain⟨b,ff,v,rfl,ba,G,L,bd,rfl,ac,be⟩:=(dj.out.below bc.out.ab) k cs;have cu:=Fj (Ju T) T.ah k Ay cs;rw[cI.out,BG]at cu;have A:Ju T (T.ah.getD k Ay)=false->r9 T=false:=λh=>D4 _ T.ah (k+1) RG;obtain⟨⟨f,y⟩,ct⟩:∃s,T.ah.getD k Ay=s:=⟨_,rfl⟩;rw[ct]at ba G cu A ac be;simp only at ba G cu A ac be;rw[Arv]at cu A;obtain⟨m,bl⟩:∃m,y.length=m:=⟨_,rfl⟩;rw[bl]at G be;have dm:=U cu;have cv:=U A;have cx:=U bl;have cy:Below wr.heap.size wr (wr.alloc (.cells #[.int .i64 f,.slice L m bd] 73)):=(Al _ _).alloc (Ac _) _;have bs:=U (bc.out.step cy);have dn:=U (Gi.new wr f (.slice L m bd) 73);have dq:=U (BE.alloc ac (.cells #[.int .i64 f,.slice L m bd] 73));obtain⟨z,bt⟩:∃z,Hid (plain T f=z):=⟨_,rfl⟩;clear ct cu A ac bl cy;have q:=bs.out.box;simp only[AS]at q;obtain⟨⟨bv,bx,b0,b1,b2,b3⟩,⟨b4,b5,b6,b7,b8,C⟩⟩:=q;go_wp2_with fail;refine(AeY _ T f z _ bs.out.tab cr.out cq.out bt).mono ?_;rintro e w2 ⟨rfl,ad⟩;have dL:=U (bs.out.step ad);have ds:=U (dn.out.below ad);have dx:=U (dq.out.below ad);clear ad bv bx b0 b1 b2 b3 b4 b5 b6 b7 b8 C ba G;cases z with
   | false =>
    have fq:Hid (r9 T=false):=cv.out (by rw[bt.out];rfl);exact Z6
   | true =>
    have cA:=ds.out;simp only[Gi]at cA;obtain⟨dy,dz⟩:=cA;go_wp2;obtain⟨cB,rfl⟩:∃cB:World,cB=w2:=⟨_,rfl⟩;go_loopw[24] (λi cC=>∃j:Nat,j<=m/\i=.int .i64 j/\Hid ((y.take j).all (OQ T)=true)/\Hid (Am w ⟨a0,a1,a2,a3,a4,a5,cg,ci,cj,cl,cm,.slice (some ⟨b,ff,none⟩) n co⟩ T cC)/\Hid (Aq cC L y)) (λi _=>m-(intOf i).toNat)
    case atStart=>exact⟨0,Au _,rfl,DH,dL,dx⟩
    case round=>
     obtain⟨j,dM,rfl,cD,fz,cF⟩:=hrel;clear dy dz;by_cases dE:j<m
     ·have cO:j<y.length:=by rw[cx.out];exact dE
      obtain⟨dN,dO,rfl,c2⟩:=cF.out j cO;have F:=Fj (OQ T) y j 0 cO;rw[cD.out,BG]at F;obtain⟨c,c3⟩:∃c,y.getD j 0=c:=⟨_,rfl⟩;rw[c3]at c2 F;obtain⟨c4,c5⟩:∃B,Hid (AP T.ah c=B):=⟨_,rfl⟩;obtain⟨c6,c7⟩:∃B,Hid (Cg c=B):=⟨_,rfl⟩;obtain⟨b9,c8⟩:∃B,Hid (plain T c=B):=⟨_,rfl⟩;rw[OQ,c5.out,c7.out,c8.out]at F;have c9:=U F;have b':Hid ((!c4&&(!c6&&b9))=false->r9 T=false):=λh=>cv.out (by
       rw[D4 (OQ T) y (j+1) (by rw[c9.out,h]),Ib])
      have q:=fz.out.box;simp only[AS]at q;obtain⟨_,⟨_,_,_,_,_,C⟩⟩:=q;clear c3 F;go_wp2_with fail;refine(Lm _ T.ah c _ fz.out.tab.ah df.out).mono ?_;rintro e w3 ⟨dP,rfl,_,_,ca⟩;have dF:=U (fz.out.step ca);have dG:=U (cF.out.below ca);rw[c5.out];clear ca C c2;cases c4 with
      | true =>
       have fq:=U (b'.out rfl);go_wp2;exact Ajq
      | false =>
       have cb:=Yl c w3;rw[c7.out]at cb;have c':=U cb;clear cb;cases c6 with
       | true =>
        have fq:=U (b'.out rfl);go_wp2_with (go_at_call 217;refine c'.out.mono ?_;rintro e w' ⟨rfl,rfl⟩);exact Ajq
       | false =>
        have q:=dF.out.box;simp only[AS]at q;obtain⟨⟨bv,bx,b0,b1,b2,b3⟩,⟨b4,b5,b6,b7,b8,C⟩⟩:=q;go_wp2_with (go_at_call 217;refine c'.out.mono ?_;rintro e w' ⟨rfl,rfl⟩);refine(AeY _ T c b9 _ dF.out.tab cr.out cq.out c8).mono ?_;rintro e dQ ⟨rfl,cc⟩;have da:=U (dF.out.step cc);have dH:=U (dG.out.below cc);clear cc bv bx b0 b1 b2 b3 b4 b5 b6 b7 b8 C;cases b9 with
        | false =>
         have fq:=U (b'.out rfl);go_wp2;go_ret;rw[fq.out];exact⟨rfl,da.out.ab⟩
        | true =>
         have d8:Hid ((y.take (j+1)).all (OQ T)=true):=c9.out;go_wp2;go_roundw
         case rel=>exact⟨j+1,O,An,d8,da,dH⟩
         case measure=>simp[intOf];omega
     ·obtain rfl:j=m:=by omega
      have d8:Hid ((T.ah.take (k+1)).all (Ju T)=true):=by
       have h:=cD.out;rw[AO (BW cx.out)]at h;unfold Hid;rw[dm.out,bt.out,h];rfl
      exact AiC
  ·obtain rfl:k=n:=by omega
   have d8:Hid (r9 T=true):=UD;go_wp2;go_ret;rw[d8.out];exact RI
end Go.Proofs.YtblcoicaeeiojaaGreatDoor
