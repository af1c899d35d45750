/- The references of table: -/
import Derived.Test.YtblcoicaeeiojaaGreatDoorSOaPmTabRG
set_option linter.all false
set_option maxHeartbeats 16000000
set_option maxRecDepth 100000
open Go.Proofs.Tryz
namespace Go.Proofs.YtblcoicaeeiojaaGreatDoor
open Go.RowKit
def AjC(R:Option (List Int))(w:World)(e:Ending)(w':World):Prop:=
 (∀b,R=some b->∃p n c,e=.returned (.tuple #[.slice p n c,.bool true])/\b.length=n/\n<=18/\Aq w' p b)/\
 (R=none->e=.returned (.tuple #[.slice none 0 0,.bool false]))/\Below w.heap.size w w'
def AmC{l:List Mp}{xs:List Int}(j:Nat)(b:j<xs.length):ET l (xs.take (j+1))=ET l (xs.take j)++if As l (xs.getD j 0)=[]then [xs.getD j 0]else As l (xs.getD j 0):=by
 rw[C4 xs j b,AmB]
def Amk{l:List Mp}{xs:List Int}(j:Nat)(b:j<xs.length):ES l (xs.take (j+1))=(ES l (xs.take j)&&decide (As l (xs.getD j 0)=[])):=by
 rw[C4 xs j b,Amj]
def T4(x:TV)(T:Y)(c:Int)(R:Option (List Int))(w:World)(cb:Ah w x T)(cc:∀m∈T.dec,m.2.length<=18)(cA:Hid (G9 T.dec 257 [c]=R)):Calls prog 129 #[x.agg,.int .i64 c] w (AjC R w):=by
 have cB:=U (Am.new cb);have cC:Hid (∀c,(As T.dec c).length<=18):=by
  intro c;cases h:AP T.dec c with
  | true=>exact cc _ (Ll h)
  | false=>rw[FN h];simp
 clear cb cc;simp only[TV.agg];go_enter func129,ntmps129;go_wp2;go_loopw[6,7] (λv6 i wr=>∃r:Nat,r<=257/\i=.int .i64 r/\(∃(p:Option Addr) (n cd:Nat) (xs:List Int),v6=.slice p n cd/\Hid (xs.length=n)/\n<=18/\Hid (Aq wr p xs)/\Hid (G9 T.dec (257-r) xs=R))/\Hid (Am w x T wr)) (λ_ i _=>257-(intOf i).toNat)
 case atStart=>
  refine⟨0,O,rfl,⟨_,1,1,[c],rfl,rfl,O,?_,cA⟩,U (cB.out.step ((Al _ _).alloc (Ac _) _))⟩;have:=Xl (w.alloc (.cells (AG x) 26)) c 3;unfold Hid;simpa[AG] using this
 case round=>
  obtain⟨r,df,rfl,⟨p,n,cd,xs,rfl,bv,cD,ce,bx⟩,b0⟩:=hrel;by_cases dj:r<257
  ·have cf:G9 T.dec (257-r) xs=if ES T.dec xs=true then some xs else if 18<(ET T.dec xs).length then none else G9 T.dec (257-(r+1)) (ET T.dec xs):=by
    rw[show 257-r=(257-(r+1))+1 by omega];rfl
   have cg:=U (cf.symm.trans bx.out);have dk:(r:Int)<=256:=O;clear bx cf;go_wp2;obtain⟨s,rfl⟩:∃s:World,s=wr:=⟨_,rfl⟩;go_loopw[8,9,21] (λv8 cF i wr=>∃j:Nat,j<=n/\i=.int .i64 j/\(∃(Y:List Int) (M:Bool),cF=.bool M/\Hid (M = !ES T.dec (xs.take j))/\Hid (ET T.dec (xs.take j)=Y)/\Hid (Y.length<=18*j)/\Hid (Ak wr s.heap.size v8 Y))/\Hid (Below s.heap.size s wr)) (λ_ _ i _=>n-(intOf i).toNat)
   case atStart=>exact⟨0,Au _,rfl,⟨[],false,rfl,rfl,rfl,DH,Ak.nil _ _⟩,Al _ _⟩
   case round=>
    obtain⟨j,dm,rfl,⟨Y,M,rfl,a',ba,bb,ci⟩,C⟩:=hrel;by_cases cI:j<n
    ·have b1:j<xs.length:=by rw[bv.out];exact cI
     obtain⟨b,ff,rfl,cO⟩:=(ce.out.below C.out) j b1;have G:=AmC (l:=T.dec) j b1;have bc:=Amk (l:=T.dec) j b1;obtain⟨L,cj⟩:∃c,xs.getD j 0=c:=⟨_,rfl⟩;rw[cj]at cO G bc;obtain⟨k,cl⟩:∃k,Hid (As T.dec L=k):=⟨_,rfl⟩;have b2:=cC.out L;rw[cl.out]at G bc b2;rw[ba.out]at G;have cm:=U G;have co:=U bc;have cp:=U b2;have F:=U (b0.out.step C.out);have c2:=F.out.at9;clear cj G bc b2;go_wp2_with fail;refine(Mu x.a9 T.dec L k _ F.out.tab.dec cl).mono ?_;rintro e w2 ⟨q,m,c3,rfl,cq,dn,cr,b3⟩;have bd:=U (C.out.trans (b3.mono C.out.size));have be:=U (ci.out.below b3);have c4:=U cr;have ei:=U cq;clear b3 c2 cr cq;by_cases dq:0<m
     ·have c5:decide ((0:Int)<m)=true:=At O;have cs:Hid (k≠[]):=λh=>by have:=ei.out;rw[h]at this;simp at this;omega
      have b4:Hid (Y.length+k.length<=17592186043904):=by have b5:=bb.out;have c6:=cp.out;unfold Hid;omega
      have b6:=U bd.out.size;go_wp2_with (at_builtin;(refine De (.tmp 32) (.tmp 33) rfl rfl s.heap.size u8 Y rfl be.out q m c3 k ei.out rfl c4.out b4.out b6.out ?_);intro c7 w3 ac ad);have b7:=U ac;have b8:=U (L9 bd.out be.out (Ac _) ad);clear ac ad;go_wp2;go_roundw
      case rel=>
       refine⟨j+1,O,An,⟨Y++k,true,rfl,?_,?_,?_,b7⟩,b8⟩
       ·unfold Hid;rw[co.out,Ai cs.out,Ib];rfl
       ·unfold Hid;rw[cm.out,V cs.out]
       ·have b5:=bb.out;have c6:=cp.out;unfold Hid;rw[Bc];omega
      case measure=>simp[intOf];omega
     ·have c5:decide ((0:Int)<m)=false:=Ai O;have ct:Hid (k=[]):=Bw Aih;have b4:Hid (Y.length<=1099511627775):=by have b5:=bb.out;unfold Hid;omega
      have b6:=U bd.out.size;go_wp2_with (at_builtin;(refine Pg (.tmp 35) (.tmp 37) rfl rfl s.heap.size u8 Y rfl be.out L 1 _ rfl J b4.out b6.out ?_);intro c7 w3 ac ad);have b7:=U ac;have b8:=U (L9 bd.out be.out (Ac _) ad);clear ac ad;go_wp2;go_roundw
      case rel=>
       refine⟨j+1,O,An,⟨Y++[L],M,rfl,?_,?_,?_,b7⟩,b8⟩
       ·unfold Hid;rw[co.out,At ct.out,JP,a'.out]
       ·unfold Hid;rw[cm.out,N ct.out]
       ·have b5:=bb.out;unfold Hid;rw[Bc,PM];omega
      case measure=>simp[intOf];omega
    ·obtain rfl:n=j:=by omega
     have A:=a'.out;have bl:=ba.out;rw[AO (BW bv.out)]at A bl;have c8:=U (ce.out.below C.out);have F:=U (b0.out.step C.out);have cu:=U ci.out.ap;cases M with
     | false =>
      have am:Hid (R=some xs):=by
       have bs:ES T.dec xs=true:=by cases h:ES T.dec xs with
        | true=>rfl
        | false=>rw[h]at A;cases A
       unfold Hid;rw[<-cg.out,N bs]
      clear A bl a' ba;go_wp2;go_ret2;rw[am.out];exact⟨(by rintro k ⟨⟩;exact⟨_,_,_,rfl,bv.out,cD,c8.out⟩),(by rintro ⟨⟩),F.out.ab⟩
     | true =>
      have bs:¬ES T.dec xs=true:=λh=>by rw[h]at A;cases A
      have b9:=cg.out;rw[V bs,bl]at b9;have cv:=U b9;obtain⟨y,c9,cx,cy⟩:=cu.out;obtain⟨a9,b'⟩:∃n,Y.length=n:=⟨_,rfl⟩;rw[b']at cx;have ca:=U b';have c':=U cy;subst cx;clear A bl a' ba bs b9 b' cy cu;by_cases bt:18<a9
      ·have da:decide ((18:Int)<a9)=true:=At O;have am:Hid (R=none):=by unfold Hid;rw[<-cv.out,N (by rw[ca.out];exact bt)]
       clear bt;go_wp2;go_ret2;rw[am.out];exact⟨(by rintro k ⟨⟩),λ_=>rfl,F.out.ab⟩
      ·have da:decide ((18:Int)<a9)=false:=Ai O;have am:Hid (G9 T.dec (257-(r+1)) Y=R):=by unfold Hid;rw[<-cv.out,V (by rw[ca.out];exact bt)]
       have db:a9<=18:=O;clear bt;go_wp2;go_roundw
       case rel=>exact⟨r+1,O,An,⟨y,a9,c9,Y,rfl,ca,db,c',am⟩,F⟩
       case measure=>simp[intOf];omega
  ·obtain rfl:r=257:=by omega
   have dc:Hid (R=none):=by unfold Hid;rw[<-bx.out];rfl
   go_wp2;go_ret2;rw[dc.out];exact⟨(by rintro k ⟨⟩),λ_=>rfl,b0.out.ab⟩
def Asd(x:TV)(T:Y)(w:World)(b1:Ah w x T)(b9:∀m∈T.dec,m.2.length<=18)(b':T.dec.length<=256):Calls prog 88 #[x.agg] w (Ar (.bool (r6 T)) w):=by
 obtain⟨a0,a1,a2,a3,a4,a5,ca,cb,cc,dH,cd,ce⟩:=x;obtain⟨pm,cf,b2,cg,cF⟩:=b1.dec;obtain⟨n,bv⟩:∃n,T.dec.length=n:=⟨_,rfl⟩;rw[bv]at b2 cF b';simp only at b2;subst b2;have ci:=U (Am.new b1);have bb:=U bv;have cj:=U cg;have cO:=U b9;have c2:Hid (T.dec.length<=256):=by unfold Hid;rw[bv];exact b'
 have c3:Hid (T.dec.all EH=false->r6 T=false):=λh=>by unfold r6;rw[h];rfl
 have c4:Hid ((T.dec.all λm=>decide (A' T.dec m.1<=18))=false->r6 T=false):=λh=>by unfold r6;rw[h,Ib]
 have c5:Hid (T.dec.all EH=true->(T.dec.all λm=>decide (A' T.dec m.1<=18))=true->r6 T=true):=λc6 c7=>by unfold r6;rw[c6,c7];rfl
 clear b1 bv cg b9;have G:=ci.out.box;simp only[AS]at G;obtain⟨⟨_,_,_,_,_,_⟩,⟨_,_,_,a',_,_⟩⟩:=G;simp only[TV.agg];go_enter func88,ntmps88;go_wp2;clear a';go_loopw[14] (λi wr=>∃k:Nat,k<=n/\i=.int .i64 k/\Hid ((T.dec.take k).all EH=true)/\Hid (Am w ⟨a0,a1,a2,a3,a4,a5,ca,cb,cc,.slice pm n cf,cd,ce⟩ T wr)) (λi _=>n-(intOf i).toNat)
 case atStart=>exact⟨0,Au _,rfl,DH,ci⟩
 case round=>
  obtain⟨k,dJ,rfl,cI,ba⟩:=hrel;by_cases b3:k<n
  ·have bc:k<T.dec.length:=by rw[bb.out];exact b3
   obtain⟨b,ff,v,rfl,L,C,bd,be,rfl,bx,b4⟩:=(cj.out.below ba.out.ab) k bc;have cu:=Fj EH T.dec k Ay bc;rw[cI.out,BG]at cu;have A:EH (T.dec.getD k Ay)=false->r6 T=false:=λh=>c3.out (D4 _ T.dec (k+1) RG);obtain⟨⟨f,y⟩,bl⟩:∃s,T.dec.getD k Ay=s:=⟨_,rfl⟩;rw[bl]at L C cu A bx b4;simp only at L C cu A bx b4;obtain⟨m,ac⟩:∃m,y.length=m:=⟨_,rfl⟩;rw[ac]at C b4;simp only[EH]at cu A;rw[ac]at cu A;have b5:=U cu;have b0:=U A;have cl:=U ac;have hS:=U (ba.out.step ((Al _ _).alloc (Ac _) (.cells #[.int .i64 f,.slice bd m be] 73)));have cm:=U (BE.alloc bx (.cells #[.int .i64 f,.slice bd m be] 73));clear bl cu A bx ac;by_cases co:2<m
   ·have c8:decide ((2:Int)<m)=true:=At O;have fq:Hid (r6 T=false):=b0.out (by rw[Ai O];rfl);clear co;exact AiO
   ·have c8:decide ((2:Int)<m)=false:=Ai O;have o3:Hid ((y.all λc=>!D9 c)=false->r6 T=false):=λh=>b0.out (by rw[h,Ib]);have c9:Hid ((T.dec.take (k+1)).all EH=y.all λc=>!D9 c):=by
     unfold Hid;rw[b5.out,At O,BG]
    clear co;go_wp2;obtain⟨cp,cq⟩:∃cp:World,cp=wr.alloc (.cells #[.int .i64 f,.slice bd m be] 73):=⟨_,rfl⟩;rw[<-cq]at hS cm|-;obtain⟨q,cr⟩:∃q:Nat,q=wr.heap.size:=⟨_,rfl⟩;simp only[<-cr];clear cq cr L C ba;go_loop[6,25] (λ_ i=>∃j:Nat,j<=m/\i=.int .i64 j/\Hid (((y.take j).all λc=>!D9 c)=true)) (λ_ i=>m-(intOf i).toNat)
    case atStart=>exact⟨0,Au _,rfl,DH⟩
    case round=>
     obtain⟨j,c',rfl,bs⟩:=hrel;by_cases da:j<m
     ·have cs:j<y.length:=by rw[cl.out];exact da
      obtain⟨dK,dM,rfl,db⟩:=cm.out j cs;have F:=Fj (λc=>!D9 c) y j 0 cs;rw[bs.out,BG]at F;obtain⟨c,ct⟩:∃c,y.getD j 0=c:=⟨_,rfl⟩;rw[ct]at db F;obtain⟨D,dc⟩:∃D,(c==46)=D:=⟨_,rfl⟩;obtain⟨S,cv⟩:∃S,Hid (Cg c=S):=⟨_,rfl⟩;obtain⟨bt,cx⟩:∃bt,Hid (ED c=bt):=⟨_,rfl⟩;have cy:D9 c=(D||(S||bt)):=by unfold D9;rw[cv.out,cx.out,<-dc];rfl
      rw[cy]at F;have fG:=U F;clear ct F cy;cases D with
      | true =>
       exact AiT
      | false =>
       go_wp2_with fail;refine(Ky c S _ cv).mono ?_;rintro e df ⟨rfl,rfl⟩;cases S with
       | true =>
        exact AiT
       | false =>
        go_wp2_with fail;refine(QV c bt _ cx).mono ?_;rintro e df ⟨rfl,rfl⟩;cases bt with
        | true =>
         exact AiT
        | false =>
         have ad:Hid (((y.take (j+1)).all λc=>!D9 c)=true):=by unfold Hid;rw[fG.out];rfl
         go_wp2;go_round
         case rel=>exact⟨j+1,O,An,ad⟩
         case measure=>simp[intOf];omega
     ·obtain rfl:j=m:=by omega
      have ad:Hid ((T.dec.take (k+1)).all EH=true):=by
       have h:=bs.out;rw[AO (BW cl.out)]at h;unfold Hid;rw[c9.out,h]
      go_wp2;go_roundw
      case rel=>exact⟨k+1,O,An,ad,hS⟩
      case measure=>simp[intOf];omega
  ·obtain rfl:k=n:=by omega
   have dj:Hid (T.dec.all EH=true):=UD;have G:=ba.out.box;simp only[AS]at G;obtain⟨⟨_,_,_,_,_,_⟩,⟨_,_,_,a',_,_⟩⟩:=G;go_wp2;clear a';obtain⟨cA,rfl⟩:∃cA:World,cA=wr:=⟨_,rfl⟩;go_loopw[44] (λi wr=>∃j:Nat,j<=k/\i=.int .i64 j/\Hid (((T.dec.take j).all λm=>decide (A' T.dec m.1<=18))=true)/\Hid (Am w ⟨a0,a1,a2,a3,a4,a5,ca,cb,cc,.slice pm k cf,cd,ce⟩ T wr)) (λi _=>k-(intOf i).toNat)
   case atStart=>exact⟨0,Au _,rfl,DH,ba⟩
   case round=>
    obtain⟨j,c',rfl,bs,b6⟩:=hrel;by_cases b3:j<k
    ·have bc:j<T.dec.length:=by rw[bb.out];exact b3
     obtain⟨b,ff,v,rfl,L,C,bd,be,rfl,_,_⟩:=(cj.out.below b6.out.ab) j bc;have cu:=Fj (λm=>decide (A' T.dec m.1<=18)) T.dec j Ay bc;rw[bs.out,BG]at cu;have A:(decide (A' T.dec (T.dec.getD j Ay).1<=18))=false->r6 T=false:=λh=>c4.out (D4 _ T.dec (j+1) RG);obtain⟨⟨f,y⟩,bl⟩:∃s,T.dec.getD j Ay=s:=⟨_,rfl⟩;rw[bl]at L C cu A;simp only at L C cu A;obtain⟨m,ac⟩:∃m,y.length=m:=⟨_,rfl⟩;rw[ac]at C;have b5:=U cu;have b0:=U A;have hS:=U (b6.out.step ((Al _ _).alloc (Ac _) (.cells #[.int .i64 f,.slice bd m be] 73)));obtain⟨R,cB⟩:∃R,Hid (G9 T.dec 257 [f]=R):=⟨_,rfl⟩;have b7:=Wl c2.out f;rw[cB.out]at b7;have cC:=U b7;clear bl cu A ac b7;have G:=hS.out.box;simp only[AS]at G;obtain⟨⟨dk,dm,dn,dq,ds,dx⟩,⟨dy,dz,dE,a',dF,dG⟩⟩:=G;go_wp2_with fail;refine(T4 _ T f R _ hS.out.tab cO.out cB).mono ?_;rintro e w2 ⟨b8,F,cD⟩;have dL:=U (hS.out.step cD);clear cD dk dm dn dq ds dx dy dz dE a' dF dG L C;by_cases a9:A' T.dec f<=18
     ·have am:=cC.out;rw[N a9]at am;obtain⟨p,dN,dO,rfl,_,_,_⟩:=b8 _ am;have ad:Hid (((T.dec.take (j+1)).all λm=>decide (A' T.dec m.1<=18))=true):=by unfold Hid;rw[b5.out];exact At a9
      clear b8 F am a9;go_wp2;go_roundw
      case rel=>exact⟨j+1,O,An,ad,dL⟩
      case measure=>simp[intOf];omega
     ·have am:=cC.out;rw[V a9]at am;have:=F am;subst this;have fq:Hid (r6 T=false):=b0.out (Ai a9);clear b8 F am a9;exact Z6
    ·obtain rfl:j=k:=by omega
     have ad:Hid (r6 T=true):=by
      have:=bs.out;rw[AO (BW bb.out)]at this;exact c5.out dj.out this
     go_wp2;go_ret;rw[ad.out];exact⟨rfl,b6.out.ab⟩
def Ns{T:Y}(H:Jf T)(c:Int):AP T.dec c=decide (As T.dec c≠[]):=by
 cases h:AP T.dec c with
 | false=>rw[FN h];rfl
 | true=>exact(At (H.has h)).symm
abbrev AkF(w0:World)(x:TV)(b ff:Nat)(a0 a1:Int)(w':World):Prop:=
 w'.cell? ⟨w0.heap.size,0,none⟩=some x.a0/\w'.cell? ⟨w0.heap.size,1,none⟩=some x.a1/\w'.cell? ⟨w0.heap.size,2,none⟩=some x.a2/\w'.cell? ⟨w0.heap.size,3,none⟩=some x.a3/\w'.cell? ⟨w0.heap.size,4,none⟩=some x.a4/\w'.cell? ⟨w0.heap.size,5,none⟩=some x.a5/\
  w'.cell? ⟨w0.heap.size,6,none⟩=some x.a6/\w'.cell? ⟨w0.heap.size,7,none⟩=some x.a7/\w'.cell? ⟨w0.heap.size,8,none⟩=some x.a8/\w'.cell? ⟨w0.heap.size,9,none⟩=some x.a9/\w'.cell? ⟨w0.heap.size,10,none⟩=some x.aB/\w'.cell? ⟨w0.heap.size,11,none⟩=some x.ax/\
  w'.cell? ⟨b,ff,none⟩=some (.int .i64 a0)/\w'.cell? ⟨b,ff+1,none⟩=some (.int .i64 a1)
def AgK{w w':World}{b ff:Nat}{a0 a1:Int}(h:w.cell? ⟨b,ff,none⟩=some (.int .i64 a0)/\w.cell? ⟨b,ff+1,none⟩=some (.int .i64 a1))(c:Below w.heap.size w w'):w'.cell? ⟨b,ff,none⟩=some (.int .i64 a0)/\w'.cell? ⟨b,ff+1,none⟩=some (.int .i64 a1):=
 ⟨(c.cell (p:=⟨b,ff,none⟩) (AN w _ h.1)).trans h.1,(c.cell (p:=⟨b,ff+1,none⟩) (AN w _ h.2)).trans h.2⟩
structure Oh (w0:World) (x:TV) (T:Y) (b off:Nat) (a0 a1:Int) (w:World):Prop where
 env:Am w0 x T w
 two:w.cell? ⟨b,off,none⟩=some (.int .i64 a0)/\w.cell? ⟨b,off+1,none⟩=some (.int .i64 a1)
theorem Oh.step{w0 w w':World}{x:TV}{T:Y}{b ff:Nat}{a0 a1:Int}(h:Oh w0 x T b ff a0 a1 w)(c:Below w.heap.size w w'):Oh w0 x T b ff a0 a1 w':=⟨h.env.step c,AgK h.two c⟩
theorem Oh.cells{w0 w:World}{x:TV}{T:Y}{b ff:Nat}{a0 a1:Int}(h:Oh w0 x T b ff a0 a1 w):AkF w0 x b ff a0 a1 w:=h.env.cells h.two.1 h.two.2
def Afu(x:TV)(T:Y)(f:Int)(y:List Int)(w:World)(c:Ah w x T)(h:Hid (As T.dec f=y))(q:y.length≠2):Calls prog 89 #[x.agg,.int .i64 f] w (Ar (.bool (AV T f)) w):=by
 have b:=U (Am.new c);have s:Hid (AV T f=false):=Mb (by rw[h.out];exact q);have A:=b.out.at9;clear c;simp only[TV.agg];go_enter func89,ntmps89;go_wp2_with fail;refine(Mu x.a9 T.dec f y _ b.out.tab.dec h).mono ?_;rintro e w1 ⟨p,n,ac,rfl,C,_,_,k⟩;have F:=U (b.out.step k);have ad:((n:Int) !=2)=true:=Ae;clear k A C;go_wp2_with fail;go_quiet (fail);generalize fE:World.drewN w1 _=G;have m:Below w1.heap.size w1 G:=Rx;have L:=U (F.out.step m);clear fE m;go_wp2;go_ret;rw[s.out];exact⟨rfl,L.out.ab⟩
def AmZ{l:List Mp}{c:Int}{i j:Nat}(dI:i<l.length)(k:j<l.length)(m:AP (l.take i) c=false)(q:(l.getD i Ay).1=c)(s:AP (l.take j) c=false)(A:(l.getD j Ay).1=c):i=j:=by
 apply JQ;intro C;have e:∀a b,a<b->b<l.length->(l.getD a Ay).1=c->AP (l.take b) c=false->False:=by
  intro a b L ac F h;have:AP (l.take b) c=true:=by
   rw[Nr];refine⟨l.getD a Ay,?_,F⟩;have G:a<(l.take b).length:=Ae;have:l.getD a Ay=(l.take b)[a]:=by simp[show a<l.length by omega]
   rw[this];exact Ob G
  rw[h]at this;cases this
 rcases Nat.lt_or_gt_of_ne C with h|h
 ·exact e i j h k q s
 ·exact e j i h dI A m
def AfJ(p:Option Addr)(n bl:Nat)(l:List Mp)(c:Int)(w0 W:World)(v:Value)(F:Hid (l.length=n))(b3:n<=17592186043904)(G:J6 w0 p l)(L:Below w0.heap.size w0 W)(bs:Hid (∀k,k<l.length->AP (l.take k) c=false->(l.getD k Ay).1=c->∀b ff,p=some ⟨b,ff,none⟩->w0.cell? ⟨b,ff+k*2+1,none⟩=some v))(bt:Hid (AP l c=false->v=.slice none 0 0)):Calls prog 82 #[.slice p n bl,.int .i64 c] W (Ar v W):=by
 have bv:=U G;have ac:=U L;clear G L;go_enter func82,ntmps82;go_wp2;go_loopw[9] (λi wr=>∃k:Nat,k<=n/\i=.int .i64 k/\Hid (AP (l.take k) c=false)/\Hid (Below W.heap.size W wr)) (λi _=>n-(intOf i).toNat)
 case atStart=>exact⟨0,Au _,rfl,rfl,Al _ _⟩
 case round=>
  obtain⟨k,b4,rfl,q,ad⟩:=hrel;by_cases bx:k<n
  ·have A:k<l.length:=by rw[F.out];exact bx
   have C:=ac.out.trans (ad.out.mono ac.out.size);obtain⟨b,ff,b5,rfl,h,e,am⟩:=bv.out k A;have m:=bs.out k A q.out;have jG:=U (AcY A q.out);obtain⟨⟨f,tl⟩,a9⟩:∃s,l.getD k Ay=s:=⟨_,rfl⟩;rw[a9]at h am jG m;obtain⟨ba,bc,rfl,_,_⟩:=am;obtain⟨bd,be⟩:∃n,tl.length=n:=⟨_,rfl⟩;simp only at h e jG m;rw[be]at e;have b0:=U e;have b1:=U m;have b6:=(C.cell (p:=⟨b,ff+k*2,none⟩) (AN _ _ h)).trans h;have b7:=(C.cell (p:=⟨b,ff+k*2+1,none⟩) (AN _ _ e)).trans e;have eU:=U (ad.out.alloc ad.out.size (.cells #[.int .i64 f,.slice ba bd bc] 73));clear a9 be m h e C;by_cases a':f=c
   ·have d_:(f==c)=true:=by simp[a']
    have dm:Hid (v=.slice ba bd bc):=by
     have b2:=(b1.out a' _ _ rfl).symm.trans b0.out;injection b2
    clear a';exact AwP
   ·exact AAe
  ·obtain rfl:k=n:=by omega
   have dm:Hid (v=.slice none 0 0):=by
    have:=q.out;rw[AO (BW F.out)]at this;exact bt.out this
   exact Ahw
def AfI(v9:Value)(l:List Mp)(c:Int)(A:List Int)(w0:World)(bd:DK w0 v9 l)(C:As l c=A):∃p n F,A.length=n/\n<=17592186043904/\Aq w0 p A/\∀W,Below w0.heap.size w0 W->Calls prog 82 #[v9,.int .i64 c] W (Ar (.slice p n F) W):=by
 obtain⟨p,F,rfl,G,ad⟩:=bd;cases s:AP l c with
 | false =>
  rw[FN s]at C;subst C;refine⟨none,0,0,rfl,O,λk q=>absurd q (FH _),λW am=>?_⟩;refine AfJ p _ F l c w0 W (.slice none 0 0) rfl ad G am ?_ (λ_=>rfl);intro k q _ be;exfalso;have:AP l c=true:=Nr.2 ⟨_,TF l k q,be⟩;rw[s]at this;cases this
 | true =>
  have bl:∃k,k<l.length/\AP (l.take k) c=false/\(l.getD k Ay).1=c:=by
   clear C G ad
   induction l with
   | nil=>simp[AP]at s
   | cons m r bs =>
    by_cases a9:m.1=c
    ·exact⟨0,J,rfl,a9⟩
    ·have:AP r c=true:=by
      simp only[AP,MQ,Ic,A4]at s;exact s.resolve_left a9
     obtain⟨k,L,ac,cD⟩:=bs this;refine⟨k+1,by simpa using L,?_,MH⟩;simp only[Jd,AP,MQ,Ai a9,FE];exact ac
  obtain⟨k,q,L,ac⟩:=bl;obtain⟨b,ff,v,rfl,b4,a',bt,bv,rfl,ba,bb⟩:=G k q;have bc:=AcK q L ac;rw[C]at bc;rw[<-bc]at ba bb a';refine⟨bt,A.length,bv,rfl,bb,ba,λW am=>?_⟩;refine AfJ _ _ F l c w0 W _ rfl ad G am ?_ (λh=>by rw[s]at h;cases h);intro b5 bx b0 b1 b6 b7 e;obtain rfl:=AmZ q bx L ac b0 b1;injection e with e;injection e with b2 b3;subst b2;subst b3;exact a'
def XV(T:Y)(H:Jf T)(cp:∀m∈T.dec,m.2.length<=18)(k:Nat):∀(x:TV) (f:Int) (w:World),Dp T.dec k f->Ah w x T->Calls prog 89 #[x.agg,.int .i64 f] w (Ar (.bool (AV T f)) w):=by
 have s:=U H;have cq:=U cp;clear H cp
 induction k with
 | zero =>
  intro x f w ad A;exact Afu x T f [] w A (show As T.dec f=[]from ad) J
 | succ k cr =>
  have c':=U cr;clear cr;intro x f w ad A;obtain⟨y,am⟩:∃y,Hid (As T.dec f=y):=⟨_,rfl⟩;by_cases cs:y.length=2
  ·obtain⟨a,b,rfl⟩:∃a b,y=[a,b]:=by
    match y,cs with
    | [a,b],_=>exact⟨a,b,rfl⟩
   have bd:=Qg (s.out.dp f) am.out;have ct:Dp T.dec k a:=ad a (by rw[am.out];simp);obtain⟨C,be⟩:∃C,AV T f=C:=⟨_,rfl⟩;obtain⟨cu,cv⟩:∃B,Hid (Kh T f=B):=⟨_,rfl⟩;obtain⟨a9,cx⟩:∃z,Hid (Ao T f=z):=⟨_,rfl⟩;obtain⟨a',cy⟩:∃z,Hid (Ao T a=z):=⟨_,rfl⟩;obtain⟨kH,mH⟩:∃z,Hid (Ao T b=z):=⟨_,rfl⟩;obtain⟨bl,cA⟩:∃l,Hid (As T.dec b=l):=⟨_,rfl⟩;obtain⟨bs,cB⟩:∃l,Hid (As T.dec a=l):=⟨_,rfl⟩;obtain⟨da,cC⟩:∃B,Hid (AV T a=B):=⟨_,rfl⟩;obtain⟨lZ,mE⟩:∃z,Hid (Ao T (Is T.dec a)=z):=⟨_,rfl⟩;rw[cv.out,cx.out,cy.out,mH.out,Ns s.out b,Ns s.out a,cA.out,cB.out,cC.out,mE.out,be]at bd;rw[be];have fj:=U bd;have db:=U ct;have bt:=U (Am.new A);have ca:=bt.out.at9;clear bd be ct ad A;simp only[TV.agg];go_enter func89,ntmps89;go_wp2_with fail;refine(Mu x.a9 T.dec f [a,b] _ bt.out.tab.dec am).mono ?_;rintro e w1 ⟨p,n,dK,rfl,dc,_,bv,cD⟩;obtain rfl:2=n:=dc;obtain⟨F,G,rfl,bx⟩:=bv 0 J;obtain⟨dL,dN,b0,b1⟩:=bv 1 J;injection b0 with b0;injection b0 with df dj;subst df;subst dj;simp only[DI,CS,E_]at bx b1;have fI:Hid (Oh w x T F G a b w1):=⟨bt.out.step cD,bx,b1⟩;clear cD ca bv bx b1;obtain⟨cf,b8,b',b9,cd,b6,ci,cb,b7,ca,cc,cg,ev,d_⟩:=fI.out.cells;obtain⟨pb,b2,dO,cF,dk,dm,b3⟩:=AfI x.a9 T.dec b bl w1 fI.out.env.tab.dec cA.out;obtain⟨dP,b4,dQ,cI,dn,dq,cO⟩:=AfI x.a9 T.dec a bs w1 fI.out.env.tab.dec cB.out;have dR:=U b3;have ds:=U cO;have c2:=U cF;have c3:=U cI;have iw:=λp=>Aj cf p;have is:=λp=>Aj b8 p;have it:=λp=>Aj b' p;have iA:=λp=>Aj b9 p;have iu:=λp=>Aj cd p;have iz:=λp=>Aj b6 p;have iq:=λp=>Aj ci p;have iB:=λp=>Aj cb p;have iv:=λp=>Aj b7 p;have iy:=λp=>Aj ca p;have ix:=λp=>Aj cc p;have ir:=λp=>Aj cg p;have kJ:=λp=>Aj ev p;have kI:=λp=>Aj d_ p;have b5:=λp=>Dm (w:=w1) (p:=p) λW iH=>Asb x T f cu W (fI.out.step iH).env.tab cv;have ce:=λp=>Dm (w:=w1) (p:=p) λW iH=>Kv x T f a9 W (fI.out.step iH).env.tab cx;have cj:=λp=>Dm (w:=w1) (p:=p) λW iH=>Kv x T a a' W (fI.out.step iH).env.tab cy;have l0:=λp=>Dm (w:=w1) (p:=p) b3;simp only[TV.agg]at b5 ce cj;have L:=U b5;have ba:=U ce;have cl:=U cj;have l1:=U l0;clear b5 ce cj l0;clear b3 cO cF cI dm dq dk dn;cases cu with
   | true =>
    have fi:Hid (C=false):=by unfold Hid;rw[fj.out];rfl
    go_wp2_with fail;refine DG Ax Ax ?_
    repeat (go_big_quiet_step (first
     | (go_at_call 130;with_reducible exact L.out _)))
    exact YM
   | false =>
    by_cases eK:a9=0
    ·have dx:(a9 !=0)=false:=by simp[eK]
     have c4:=U eK;clear eK;by_cases dE:a'=0
     ·have dy:(a' !=0)=false:=by simp[dE]
      have c5:=U dE;clear dE;by_cases dS:0<b2
      ·have dF:decide ((0:Int)<b2)=true:=At O;have fi:Hid (C=false):=by
        have:bl≠[]:=λh=>by have:=c2.out;rw[h]at this;simp at this;omega
        unfold Hid;rw[fj.out,At this];simp
       go_wp2_with fail;refine DG Ax Ax ?_
       repeat (go_big_quiet_step (first
        | (go_at_call 130;with_reducible exact L.out _)
        | (go_at_call 91;with_reducible exact ba.out _)
        | (go_at_call 91;with_reducible exact cl.out _)
        | (go_at_call 82;with_reducible exact l1.out _)))
       exact YM
      ·have dF:decide ((0:Int)<b2)=false:=Ai O;have c6:Hid (bl=[]):=Bw (by rw[c2.out];omega);go_wp2_with fail;refine DG Ax Ax ?_
       repeat (go_big_quiet_step (first
        | (go_at_call 130;with_reducible exact L.out _)
        | (go_at_call 91;with_reducible exact ba.out _)
        | (go_at_call 91;with_reducible exact cl.out _)
        | (go_at_call 82;with_reducible exact l1.out _)))
       refine wpQuiet_nil ?_;intro _ e7;obtain⟨pq,e6⟩:=e7;subst e6;have bb:=U (Dx w1 pq);have q:=U (fI.out.step bb.out);generalize Cf w1 pq=w2 at q bb|-;clear iw is it iA iu iz iq iB iv iy ix ir kJ kI cf b8 b' b9 cd b6 ci cb b7 ca cc cg ev d_;obtain⟨cf,b8,b',b9,cd,b6,ci,cb,b7,ca,cc,cg,ev,d_⟩:=q.out.cells;have iw:=λp=>Aj cf p;have is:=λp=>Aj b8 p;have it:=λp=>Aj b' p;have iA:=λp=>Aj b9 p;have iu:=λp=>Aj cd p;have iz:=λp=>Aj b6 p;have iq:=λp=>Aj ci p;have iB:=λp=>Aj cb p;have iv:=λp=>Aj b7 p;have iy:=λp=>Aj ca p;have ix:=λp=>Aj cc p;have ir:=λp=>Aj cg p;have kJ:=λp=>Aj ev p;have kI:=λp=>Aj d_ p;have cm:=λp=>Dm (w:=w2) (p:=p) λW iH=>c'.out x a W db.out (q.out.step iH).env.tab;have c7:=λp=>Dm (w:=w2) (p:=p) λW iH=>ds.out W (bb.out.trans (iH.mono bb.out.size));simp only[TV.agg,cC.out]at cm;have c8:=U cm;have co:=U c7;have c9:Hid (G9 T.dec 257 [a]=some (F6 T.dec a)):=by
        unfold Hid;rw[Wl s.out.len,N (s.out.fin a)]
       clear cm c7;by_cases dT:0<b4
       ·have dG:decide ((0:Int)<b4)=true:=At O;have bc:Hid (bs≠[]):=λh=>by have:=c3.out;rw[h]at this;simp at this;omega
        cases da with
        | false =>
         have fi:Hid (C=false):=by unfold Hid;rw[fj.out,At bc.out];simp
         go_wp2_with fail;refine DG Ax Ax ?_
         repeat (go_big_quiet_step (first
          | (go_at_call 82;with_reducible exact co.out _)
          | (go_at_call 89;with_reducible exact c8.out _)))
         refine wpQuiet_nil ?_;intro _ e7;obtain⟨pq,e6⟩:=e7;subst e6;have HEq:=U (q.out.step (Dx w2 pq));generalize Cf w2 pq=kF at HEq|-;exact AwX
        | true =>
         have mD:Hid (C=(decide (kH=0)||decide (lZ<=kH))):=by
          unfold Hid;rw[fj.out,c4.out,c5.out,c6.out,At bc.out];simp
         go_wp2_with fail;refine DG Ax Ax ?_
         repeat (go_big_quiet_step (first
          | (go_at_call 82;with_reducible exact co.out _)
          | (go_at_call 89;with_reducible exact c8.out _)))
         refine wpQuiet_nil ?_;intro _ e7;obtain⟨pq,e6⟩:=e7;subst e6;have ac:=U (Dx w2 pq);have c:=U (q.out.step ac.out);generalize Cf w2 pq=w3 at c ac|-;clear iw is it iA iu iz iq iB iv iy ix ir kJ kI cf b8 b' b9 cd b6 ci cb b7 ca cc cg ev d_;obtain⟨cf,b8,b',b9,cd,b6,ci,cb,b7,ca,cc,cg,ev,d_⟩:=c.out.cells;have j6:=U (c.out.step (Bx w3));go_wp2_with fail;go_region_held3 (λw'=>w'.cell? ⟨w.heap.size,0,none⟩=some x.a0/\w'.cell? ⟨w.heap.size,1,none⟩=some x.a1/\w'.cell? ⟨w.heap.size,2,none⟩=some x.a2/\w'.cell? ⟨w.heap.size,3,none⟩=some x.a3/\w'.cell? ⟨w.heap.size,4,none⟩=some x.a4/\w'.cell? ⟨w.heap.size,5,none⟩=some x.a5/\w'.cell? ⟨w.heap.size,6,none⟩=some x.a6/\w'.cell? ⟨w.heap.size,7,none⟩=some x.a7/\w'.cell? ⟨w.heap.size,8,none⟩=some x.a8/\w'.cell? ⟨w.heap.size,9,none⟩=some x.a9/\w'.cell? ⟨w.heap.size,10,none⟩=some x.aB/\w'.cell? ⟨w.heap.size,11,none⟩=some x.ax/\w'.cell? ⟨F,G,none⟩=some (.int .i64 a)/\w'.cell? ⟨F,G+1,none⟩=some (.int .i64 b))
          (first
           | go_keep
           | exact(j6.out.step dM).cells)
          (first
           | (go_at_call 129;(with_reducible refine(T4 _ T a (some (F6 T.dec a)) _ j6.out.env.tab cq.out c9).mono ?_);rintro e eC ⟨k6,_,dM⟩;obtain⟨dH,mF,dJ,rfl,mB,mC,mG⟩:=k6 _ rfl))
         all_goals
          exact AAR
       ·have dG:decide ((0:Int)<b4)=false:=Ai O;have bc:Hid (bs=[]):=Bw (by rw[c3.out];omega);have mD:Hid (C=(decide (kH=0)||decide (lZ<=kH))):=by
         unfold Hid;rw[fj.out,c4.out,c5.out,c6.out,bc.out];simp
        go_wp2_with fail;refine DG Ax Ax ?_
        repeat (go_big_quiet_step (first
         | (go_at_call 82;with_reducible exact co.out _)))
        refine wpQuiet_nil ?_;intro _ e7;obtain⟨pq,e6⟩:=e7;subst e6;have ac:=U (Dx w2 pq);have c:=U (q.out.step ac.out);generalize Cf w2 pq=w3 at c ac|-;clear iw is it iA iu iz iq iB iv iy ix ir kJ kI cf b8 b' b9 cd b6 ci cb b7 ca cc cg ev d_;obtain⟨cf,b8,b',b9,cd,b6,ci,cb,b7,ca,cc,cg,ev,d_⟩:=c.out.cells;have j6:=U (c.out.step (Bx w3));go_wp2_with fail;go_region_held3 (λw'=>w'.cell? ⟨w.heap.size,0,none⟩=some x.a0/\w'.cell? ⟨w.heap.size,1,none⟩=some x.a1/\w'.cell? ⟨w.heap.size,2,none⟩=some x.a2/\w'.cell? ⟨w.heap.size,3,none⟩=some x.a3/\w'.cell? ⟨w.heap.size,4,none⟩=some x.a4/\w'.cell? ⟨w.heap.size,5,none⟩=some x.a5/\w'.cell? ⟨w.heap.size,6,none⟩=some x.a6/\w'.cell? ⟨w.heap.size,7,none⟩=some x.a7/\w'.cell? ⟨w.heap.size,8,none⟩=some x.a8/\w'.cell? ⟨w.heap.size,9,none⟩=some x.a9/\w'.cell? ⟨w.heap.size,10,none⟩=some x.aB/\w'.cell? ⟨w.heap.size,11,none⟩=some x.ax/\w'.cell? ⟨F,G,none⟩=some (.int .i64 a)/\w'.cell? ⟨F,G+1,none⟩=some (.int .i64 b))
         (first
          | go_keep
          | exact(j6.out.step dM).cells)
         (first
          | (go_at_call 129;(with_reducible refine(T4 _ T a (some (F6 T.dec a)) _ j6.out.env.tab cq.out c9).mono ?_);rintro e eC ⟨k6,_,dM⟩;obtain⟨dH,mF,dJ,rfl,mB,mC,mG⟩:=k6 _ rfl))
        all_goals
         exact AAR
     ·have dy:(a' !=0)=true:=by simp[dE]
      have fi:Hid (C=false):=AhF;clear dE;go_wp2_with fail;refine DG Ax Ax ?_
      repeat (go_big_quiet_step (first
       | (go_at_call 130;with_reducible exact L.out _)
       | (go_at_call 91;with_reducible exact ba.out _)
       | (go_at_call 91;with_reducible exact cl.out _)))
      exact YM
    ·have dx:(a9 !=0)=true:=by simp[eK]
     have fi:Hid (C=false):=AhG;clear eK;go_wp2_with fail;refine DG Ax Ax ?_
     repeat (go_big_quiet_step (first
      | (go_at_call 130;with_reducible exact L.out _)
      | (go_at_call 91;with_reducible exact ba.out _)))
     exact YM
  ·exact Afu x T f y w A am cs
end Go.Proofs.YtblcoicaeeiojaaGreatDoor
