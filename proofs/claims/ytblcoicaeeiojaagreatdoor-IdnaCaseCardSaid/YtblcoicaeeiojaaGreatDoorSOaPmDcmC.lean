/- decompose: appendFull, b -/
import Derived.Test.YtblcoicaeeiojaaGreatDoorSOaPmMapR
set_option linter.all false
set_option maxHeartbeats 16000000
set_option maxRecDepth 100000
open Go.Proofs.Tryz
namespace Go.Proofs.YtblcoicaeeiojaaGreatDoor
open Go.RowKit
theorem Ak.cV{w:World}{B n c:Nat}{p:Option Addr}{xs:List Int}(h:Ak w B (.slice p n c) xs):Aq w p xs:=by
 obtain⟨k,m,e,dI⟩:=h.ap;injection e with b _ _;subst b;exact dI
def PW(T:Y)(c:Int):Prop:=∀(w0:World) (x:TV) (v:Value) (xs:List Int) (w:World),Ah w0 x T->Below w0.heap.size w0 w->Ak w w0.heap.size v xs->xs.length+(Br T c).length<=1000000->
 Calls prog 225 #[v,x.agg,.int .i64 c] w (Ajw w0.heap.size v (xs++Br T c) w)
def Aa3(T:Y)(c:Int)(a9:Av T=0)(co:∀y∈As T.dec c,PW T y):PW T c:=by
 intro w0 x v xs w bd a' be bl;obtain⟨s,fJ⟩:∃s,Hid (BK c=s):=⟨_,rfl⟩;obtain⟨F,hF⟩:∃F,Hid (As T.dec c=F):=⟨_,rfl⟩;obtain⟨X,eE⟩:∃X,Hid (Br T c=X):=⟨_,rfl⟩;obtain⟨n,cp⟩:∃n,s.length=n:=⟨_,rfl⟩;obtain⟨m,bs⟩:∃m,F.length=m:=⟨_,rfl⟩;have dL:m<=18:=by rw[<-bs,<-hF.out];exact AlW a9 c
 rw[eE.out]at bl|-;have c6:Hid (s≠[]->X=s):=λh=>Axg;have c7:Hid (s=[]->F=[]->X=[c]):=λbt bv=>by rw[<-eE.out];exact Ng (by rw[fJ.out];exact bt) (by rw[hF.out];exact bv)
 have c8:Hid (s=[]->F≠[]->X=AQ T F):=λbt bv=>by rw[<-eE.out,Ti a9 (by rw[fJ.out];exact bt) (by rw[hF.out];exact bv),hF.out]
 have c9:Hid (∀y∈F,PW T y):=by rw[<-hF.out];exact co
 have c':Hid (AL 0 1114111 (AC T.dec)=true):=(Jw (CO a9).2.1).2.2.1;have q:=U (Am.new (bd.below a'));have da:=U bd;have db:=U a';have dc:=U be;have bx:=U bl;have bb:=U cp;have G:=U bs;have b0:Hid (w0.heap.size<=w.heap.size):=a'.size;have cq:Hid (∀b,w.heap.size<=b->v.ownBlock≠some b):=λb A e=>by have:=(Bs be b e).2;omega
 clear bd a' be bl cp bs co a9 eE;simp only[TV.agg];go_enter func225,ntmps225;go_wp2_with fail;refine(Anz c s _ fJ).mono ?_;rintro e w1 ⟨df,dj,rfl,cr,cs⟩;rw[bb.out];replace q:=U (q.out.step cs);have ct:=U (dc.out.below q.out.ab);have b1:Hid (w.heap.size<=w1.heap.size):=q.out.ab.size;have dk:=U cr;clear cr cs;by_cases dm:0<n
 ·have dM:decide ((0:Int)<(n:Int))=true:=At O;have cu:Hid (X=s):=c6.out (λe=>Ahv);have dn:Hid (xs.length+s.length<=17592186043904):=by have:=bx.out;rw[cu.out]at this;unfold Hid;omega
  go_wp2_with (at_builtin;(refine Ag8 (.tmp 16) (.tmp 17) rfl rfl w0.heap.size v xs rfl ct.out df n dj s bb.out rfl dk.out dn.out (Af b0.out b1.out) ?_);intro L w2 ac ad am);have i6:Hid (Ak w2 w0.heap.size L (xs++X)):=by unfold Hid;rw[cu.out];exact ac
  have jW:=U (A5 (G4 q.out.ab v.ownBlock) ad);have jX:Hid (∀b,b<w.heap.size->v.ownBlock≠some b->L.ownBlock≠some b):=λb A=>Aep am b (Ci A b1.out);clear ac ad am;exact Ahx
 ·obtain rfl:n=0:=by omega
  have cv:Hid (s=[]):=Bw bb.out;clear dm;obtain⟨⟨b2,b3,b4,b5,b6,b7⟩,⟨b8,b9,b',ca,cb,cc⟩⟩:=q.out.box.load;go_wp2_with fail;refine(O9 x T c F _ q.out.tab c'.out hF).mono ?_;rintro e w2 ⟨dN,rfl,cd,ce⟩;obtain⟨dq,ds,cx,dx⟩:=cd.ap;rw[G.out]at cx;subst cx;replace q:=U (q.out.step ce);have cf:=U (ct.out.below ce);have dO:Hid (w.heap.size<=w2.heap.size):=q.out.ab.size;have cy:=U cd;clear cd ce dx b2 b3 b4 b5 b6 b7 b8 b9 b' ca cb cc;by_cases cA:m=0
  ·subst cA;have dy:Hid (F=[]):=Bw G.out;have cB:Hid (X=[c]):=c7.out cv.out dy.out;have dz:Hid (xs.length+([c]:List Int).length<=17592186043904):=by have:=bx.out;rw[cB.out]at this;unfold Hid;omega
   have dE:Hid (Ak (w2.alloc (.cells #[.int .i64 c] 3)) w0.heap.size v xs):=cf.out.alloc _;have dF:Hid (Aq (w2.alloc (.cells #[.int .i64 c] 3)) (some ⟨w2.heap.size,0,none⟩) [c]):=Xl w2 c 3;have cg:Hid (Below w.heap.size w (w2.alloc (.cells #[.int .i64 c] 3))):=q.out.ab.alloc q.out.ab.size _;have dG:Hid (w0.heap.size<=(w2.alloc (.cells #[.int .i64 c] 3)).heap.size):=Af b0.out cg.out.size;go_wp2_with (at_builtin;(refine Ag8 (.tmp 25) (.tmp 27) rfl rfl w0.heap.size v xs rfl dE.out (some ⟨w2.heap.size,0,none⟩) 1 1 [c] rfl rfl dF.out dz.out dG.out ?_);intro L w3 ac ad am);have i6:Hid (Ak w3 w0.heap.size L (xs++X)):=by unfold Hid;rw[cB.out];exact ac
   have jW:=U (A5 (G4 cg.out v.ownBlock) ad);have jX:Hid (∀b,b<w.heap.size->v.ownBlock≠some b->L.ownBlock≠some b):=λb A=>Aep am b (Ci A cg.out.size);clear ac ad am;exact Ahx
  ·have dP:((m:Int)==0)=false:=by simp;omega
   have cC:Hid (X=AQ T F):=c8.out cv.out (λe=>by have:=G.out;rw[e]at this;simp at this;omega);have dH:Hid (∀b,(Value.slice dq m ds).ownBlock=some b->v.ownBlock≠some b):=λb A=>cq.out b (Af b1.out (Bs cy.out b A).1);clear cA;go_wp2;go_loopw[0,10,31] (λu _ i wr=>∃k:Nat,k<=m/\i=.int .i64 k/\Hid (F0 w0.heap.size w2 v u (xs++AQ T (F.take k)) wr)) (λ_ _ i _=>m-(intOf i).toNat)
   case atStart=>exact⟨0,Au _,rfl,by simpa[Hid,AQ] using F0.start cf.out⟩
   case round=>
    obtain⟨k,dQ,rfl,C⟩:=hrel;by_cases dJ:k<m
    ·have ci:k<F.length:=by rw[G.out];exact dJ
     obtain⟨b,ff,rfl,cD⟩:=(C.out.kept cy.out dH.out).cV k ci;obtain⟨y,cj⟩:∃y,F.getD k 0=y:=⟨_,rfl⟩;have cF:y∈F:=by rw[<-cj];simp[ci]
     have cl:=AaW T F (k+1);have ba:=VA T F k ci;rw[cj]at cD ba;rw[ba]at cl;have cm:=c9.out y cF w0 x u0 (xs++AQ T (F.take k)) wr da.out (C.out.ab cf.out (db.out.trans (q.out.ab.mono b0.out))) C.out.row (by have:=bx.out;rw[cC.out]at this;simp only[Bc]at cl|-;omega);rw[LV,<-ba]at cm;have cI:=U cm;have cO:=C.out.box q.out.box (cq.out _ (Ac _));obtain⟨⟨b2,b3,b4,b5,b6,b7⟩,⟨b8,b9,b',ca,cb,cc⟩⟩:=cO.load;clear cO cm cl ba cj cF;go_wp2_with fail;refine cI.out.mono ?_;rintro e w3 ⟨dR,rfl,c2,c3,c4⟩;have dK:=U (C.out.write c2 c3 c4);clear c2 c3 c4 b2 b3 b4 b5 b6 b7 b8 b9 b' ca cb cc cD cI;go_wp2;go_roundw
     case rel=>exact⟨k+1,O,An,dK⟩
     case measure=>simp[intOf];omega
    ·obtain rfl:k=m:=by omega
     have bc:=C.out;rw[AO (BW G.out),<-cC.out]at bc;have c5:=U (bc.post q.out.ab);have i6:=U bc.row;clear bc;go_wp2;go_ret;exact⟨_,rfl,i6.out,c5.out.1,c5.out.2⟩
def Aj_{T:Y}(h:Av T=0)(k:Nat):∀c,Dp T.dec k c->PW T c:=by
 induction k with
 | zero =>
  intro c e;refine Aa3 T c h ?_;intro y b;have m:As T.dec c=[]:=e;rw[m]at b;cases b
 | succ k q =>
  intro c e;exact Aa3 T c h λy b=>q y (e y b)
def Aj'{T:Y}(b:Av T=0)(c:Int):PW T c:=Aj_ b 256 c (Nb b c)
end Go.Proofs.YtblcoicaeeiojaaGreatDoor
namespace Go.Proofs.YtblcoicaeeiojaaGreatDoor
def DF(T:Y)(O:List Int)(k9:Int)(c:Int):Option Int:=if k9<0 then none else FU T (O.getD k9.toNat 0) (O.drop (k9.toNat+1)) c
structure CJ (T:Y) (d:List Int) (k:Nat) (st:Int) (O:List Int):Prop where
 len:O.length<=k
 bk:∀x∈O,AA x=true
 body:(st = -1/\(∀m∈O,Ao T m≠0)/\Jq T d=El T O (d.drop k))\/
  ∃A s M,O=A++s::M/\st=A.length/\Ao T s=0/\(∀m∈M,Ao T m≠0)/\Jq T d=A++CP T s M (d.drop k)
theorem CJ.start(T:Y)(d:List Int):CJ T d 0 (-1) []:=⟨Ac _,J,.inl ⟨rfl,J,rfl⟩⟩
def V6(d:List Int)(k:Nat)(ba:k<d.length):d.drop k=d.getD k 0::d.drop (k+1):=by
 rw[EP ba];exact Gc
def AcT(A M:List Int)(s:Int):(A++s::M).getD A.length 0=s:=J
def Al8(A M:List Int)(s:Int):(A++s::M).drop (A.length+1)=M:=by
 rw[show A.length+1=A.length+1 from rfl,List.drop_append];exact J
def XX(T:Y)(A M:List Int)(s c:Int):DF T (A++s::M) A.length c=FU T s M c:=by
 unfold DF;rw[V O,Ef,AcT,Al8]
theorem CJ.cS{T:Y}{d O:List Int}{k:Nat}{k9:Int}(h:CJ T d k k9 O):k9 = -1\/(0<=k9/\k9<O.length):=by
 rcases h.body with⟨e,_⟩|⟨A,s,M,rfl,e,_⟩
 ·exact .inl e
 ·right;rw[e];simp;omega
theorem CJ.comp{T:Y}(G:Av T=0){d m:List Int}{k:Nat}{k9 c p:Int}(h:CJ T d k k9 m)(L:k<d.length)(ac:d.getD k 0=c)(ad:Dg T c)(b:DF T m k9 c=some p):CJ T d (k+1) k9 (m.set k9.toNat p):=by
 have q:=V6 d k L;rw[ac]at q;rcases h.body with⟨e,am,C⟩|⟨A,s,M,rfl,rfl,am,C,a9⟩
 ·unfold DF at b;rw[N O]at b;cases b
 ·rw[XX]at b;have F:=Xy G (Un b).2 ad;have a':(A++s::M).set ((A.length:Int)).toNat p=A++p::M:=by
   rw[Ef,PO];exact J
  rw[a'];refine⟨?_,?_,.inr ⟨A,p,M,rfl,rfl,F.2.1,C,?_⟩⟩
  ·have:=h.len;simp only[Bc,BB]at this|-;omega
  ·intro x b3;rw[Bg,AX]at b3;rcases b3 with b3|rfl|b3
   ·exact h.bk x N3
   ·exact F.2.2.1
   ·exact h.bk x N3
  ·rw[a9,q,Np b]
theorem CJ.zero{T:Y}{d O:List Int}{k:Nat}{k9 c:Int}(h:CJ T d k k9 O)(F:k<d.length)(G:d.getD k 0=c)(b2:AA c=true)(q:DF T O k9 c=none)(b:Ao T c=0):CJ T d (k+1) O.length (O++[c]):=by
 have m:=V6 d k F;rw[G]at m;refine⟨Ry,?_,.inr ⟨O,c,[],rfl,rfl,b,J,?_⟩⟩
 ·exact Awi
 ·rcases h.body with⟨e,L,C⟩|⟨A,s,M,rfl,rfl,L,C,ac⟩
  ·rw[C,m,El,N b]
  ·rw[XX]at q;rw[ac,m,Mg q b];exact J
theorem CJ.mark{T:Y}{d O:List Int}{k:Nat}{k9 c:Int}(h:CJ T d k k9 O)(ac:k<d.length)(ad:d.getD k 0=c)(b2:AA c=true)(L:DF T O k9 c=none)(q:Ao T c≠0):CJ T d (k+1) k9 (O++[c]):=by
 have C:=V6 d k ac;rw[ad]at C;refine⟨Ry,?_,?_⟩
 ·exact Awi
 ·have b:∀(M:List Int),(∀m∈M,Ao T m≠0)->∀m∈M++[c],Ao T m≠0:=by
   intro M am m b;rw[Bg,Ch]at b;rcases b with b|rfl
   ·exact am m b
   ·exact q
  rcases h.body with⟨e,F,G⟩|⟨A,s,M,rfl,rfl,F,G,a9⟩
  ·exact .inl ⟨e,b O F,by rw[G,C,El,V q]⟩
  ·rw[XX]at L;exact .inr ⟨A,s,M++[c],J,rfl,F,b M G,by rw[a9,C,Mf L q]⟩
theorem CJ.done{T:Y}{d O:List Int}{k9:Int}(h:CJ T d d.length k9 O):Jq T d=O:=by
 rcases h.body with⟨e,c,b⟩|⟨A,s,M,rfl,rfl,c,b,k⟩
 ·rw[b,Vd];cases O<;>rfl
 ·rw[k,Vd,CP]
theorem CJ.last{T:Y}{d b:List Int}{k:Nat}{k9 j:Int}(h:CJ T d k k9 b)(c:j = -1\/(0<=j/\j<b.length/\Ao T (b.getD j.toNat 0)=0))(G:∀i:Nat,j<i->i<b.length->Ao T (b.getD i 0)≠0):j=k9:=by
 rcases h.body with⟨e,m,F⟩|⟨A,s,M,rfl,rfl,m,F,a'⟩
 ·rcases c with c|⟨L,ac,C⟩
  ·omega
  ·refine absurd C (m _ ?_);have:j.toNat<b.length:=O;rw[Cz,CI this];exact Ob this
 ·have ad:A.length<(A++s::M).length:=by simp
  have ge:¬j<(A.length:Int):=λam=>G A.length am ad (by rw[AcT];exact m);rcases c with c|⟨L,ac,C⟩
  ·omega
  ·by_cases ba:(A.length:Int)<j
   ·have dI:j.toNat<(A++s::M).length:=by omega
    refine absurd C (F _ ?_);rw[Cz,LW O];obtain⟨q,a9⟩:∃q,j.toNat-A.length=q+1:=⟨j.toNat-A.length-1,O⟩;rw[a9,N'];simp only[Bc,BB]at dI;rw[CI O];exact Ob _
   ·omega
def Ut(T:Y)(M:List Int)(c:Int):E4 T M c↔(M=[]\/Ao T (M.getD (M.length-1) 0)<Ao T c):=by
 unfold E4;rcases List.eq_nil_or_concat M with rfl|⟨N,m,rfl⟩
 ·exact J
 ·exact J
def AfC{T:Y}{O:List Int}{k9 c:Int}(b:0<=k9)(h:¬E4 T (O.drop (k9.toNat+1)) c):DF T O k9 c=none:=by
 unfold DF FU
 rw[if_neg (by omega),if_neg h]
def AfE{T:Y}{O:List Int}{k9 c:Int}(b:0<=k9)(h:E4 T (O.drop (k9.toNat+1)) c):DF T O k9 c=Db T (O.getD k9.toNat 0) c:=by
 unfold DF FU
 rw[if_neg (by omega),if_pos h]
def AfD{T:Y}{O:List Int}{k9 c:Int}(b:k9<0):DF T O k9 c=none:=by unfold DF;rw[N b]
def Aq4{T:Y}{a b x:Int}(h:Fo a b=(x,true)):Db T a b=some x:=by unfold Db;rw[h];rfl
def IX(T:Y)(a b:Int):Int × Bool:=match Db T a b with|some p=>(p,true)|none=>(0,false)
def Aq7{T:Y}{a b p:Int}(h:IX T a b=(p,true)):Db T a b=some p:=by
 unfold IX at h;cases c:Db T a b with
 | none=>rw[c]at h;simp at h
 | some q=>rw[c]at h;simp at h;rw[h]
def Aq6{T:Y}{a b p:Int}(h:IX T a b=(p,false)):Db T a b=none/\p=0:=by
 unfold IX at h;cases c:Db T a b with
 | none=>rw[c]at h;simp at h;exact⟨rfl,h.symm⟩
 | some q=>rw[c]at h;simp at h
end Go.Proofs.YtblcoicaeeiojaaGreatDoor
namespace Go.Proofs.YtblcoicaeeiojaaGreatDoor
open Go.RowKit
def Amx(v u:Value)(xs cy:List Int)(B:Bool)(w:World)(h:Bp w v xs)(m:Bp w u cy)(ef:Hid ((xs==cy)=B)):Calls prog 233 #[v,u] w (Ar (.bool B) w):=by
 obtain⟨p,c,rfl,b,A⟩:=h;obtain⟨q,d,rfl,e,C⟩:=m;by_cases cl:xs.length=cy.length
 ·have s:((xs.length:Int) !=(cy.length:Int))=false:=by simp[cl]
  have eh:=U b;have j':=U e;have cF:=U cl;clear cl b e;go_enter func233,ntmps233;go_wp2;go_loopw[5,13] (λ_ i wr=>∃k:Nat,k<=xs.length/\i=.int .i64 k/\Hid (xs.take k=cy.take k)/\Below w.heap.size w wr) (λ_ i _=>xs.length-(intOf i).toNat)
  case atStart=>exact⟨0,Au _,rfl,rfl,Al _ _⟩
  case round=>
   exact AxL
 ·have s:((xs.length:Int) !=(cy.length:Int))=true:=by simp;omega
  have c6:Hid (B=false):=Awq;clear cl b e;go_enter func233,ntmps233;exact Axo
def ApT(x:TV)(T:Y)(p:Option Addr)(cap:Nat)(ao:List Int)(E:Int)(L:List Int)(w:World)(b4:Ah w x T)(cj:Bi w)(cl:Aq w p ao)(cm:ao.length<=17592186043904)(cr:Hid (Bu T ao=E))(df:Hid (FQ T ao=L)):Calls prog 153 #[x.agg,.slice p ao.length cap] w (M0 L E w):=by
 obtain⟨A,co⟩:∃A,Hid (AB T ao=A):=⟨_,rfl⟩;obtain⟨R,c4⟩:∃R,Hid (LF T ao=R):=⟨_,rfl⟩;have q:=U (Am.new b4);have dy:=U b4;have cp:=U cl;have cq:=U cj;obtain⟨n,b5⟩:∃n,ao.length=n:=⟨_,rfl⟩;have b6:=λW (b7:Ah W x T) b8 b9=>O3 x T p cap ao A R W b7 b8 b9 cm co c4;rw[b5]at cm b6|-;have bb:=U b5;have c5:=U b6;clear b4 cj cl b5 b6;simp only[TV.agg];go_enter func153,ntmps153;obtain⟨⟨G,ac,ad,am,a9,a'⟩,⟨ba,bc,bd,be,bs,bt⟩⟩:=q.out.box.load;go_wp2_with fail;refine(c5.out _ q.out.tab (cq.out.below q.out.ab) (cp.out.below q.out.ab)).mono ?_;rintro e w1 ⟨dz,rfl,c6,bv⟩;have c7:∃h:World,Am w x T h/\h.heap.size=w.heap.size+1/\Below h.heap.size h w1:=⟨_,q.out,J,bv⟩;clear q c6 bv G ac ad am a9 a' ba bc bd be bs bt;obtain⟨h,cs,ct,bv⟩:=c7;have bx:=U cs;have dE:=U ct;have b0:=U bv;clear cs ct bv;by_cases bl:A=0
 ·subst bl;have dF:n<=4096:=Pv;have cu:Hid (Av T=0):=(CN co.out).1;have dG:=OZ n O;go_wp2;go_loopw[8,10,25] (λu _ i wr=>∃k:Nat,k<=n/\i=.int .i64 k/\Hid ((AQ T (ao.take k)).length<=4096)/\Hid (Ak wr h.heap.size u (AQ T (ao.take k)))/\Hid (Below h.heap.size h wr)) (λ_ _ i _=>n-(intOf i).toNat)
  case atStart=>exact⟨0,Au _,rfl,by simp[Hid,AQ],by simpa[Hid,AQ] using Ak.made w1 h.heap.size n b0.out.size O,b0.out.alloc b0.out.size _⟩
  case round=>
   obtain⟨k,dH,rfl,cv,b',b1⟩:=hrel;have s:=U (bx.out.step b1.out);by_cases c8:k<n
   ·have cx:k<ao.length:=by rw[bb.out];exact c8
    obtain⟨b,ff,rfl,cy⟩:=(cp.out.below s.out.ab) k cx;obtain⟨c,cA⟩:∃c,ao.getD k 0=c:=⟨_,rfl⟩;have ca:=VA T ao k cx;have cB:=AaW T ao (k+1);rw[cA]at cy ca;have cb:=Aj' cu.out c h x u8 (AQ T (ao.take k)) wr bx.out.tab b1.out b'.out (by have:=(Th cu.out c).2;have:=cv.out;omega);rw[<-ca]at cb;have cC:=U cb;have c9:=U cB;clear cA cb ca cB;obtain⟨⟨G,ac,ad,am,a9,a'⟩,⟨ba,bc,bd,be,bs,bt⟩⟩:=s.out.box.load;go_wp2_with fail;refine cC.out.mono ?_;rintro e w3 ⟨c',rfl,C,cD,da⟩;have b2:=U (b1.out.grown cD b1.out.size b'.out.base);obtain⟨dJ,dK,cF,db⟩:=C.ap;have cc:=U C;obtain⟨m,F⟩:∃m,(AQ T (ao.take (k+1))).length=m:=⟨_,rfl⟩;rw[F]at cF;subst cF;have cI:=U F;clear C cD da db F G ac ad am a9 a' ba bc bd be bs bt cy cC;by_cases cd:4096<m
    ·have dc:decide ((4096:Int)<(m:Int))=true:=At O;have i7:Bu T ao=7:=Ael co.out (by have:=c9.out;have:=cI.out;omega);have ek:Hid (E=7):=AhE;have fx:Hid (L=[]):=AwK;have eT:=U (bx.out.step b2.out).ab;clear cd i7;exact Awo
    ·have dc:decide ((4096:Int)<(m:Int))=false:=Ai O;have dL:¬(4096<m):=cd;have dj:Hid ((AQ T (ao.take (k+1))).length<=4096):=by unfold Hid;rw[cI.out];omega
     clear cd;go_wp2;go_roundw
     case rel=>exact⟨k+1,O,An,dj,cc,b2⟩
     case measure=>simp[intOf];omega
   ·obtain rfl:k=n:=by omega
    have b3:=cv.out;have ce:=b'.out;rw[AO (BW bb.out)]at b3 ce;have cf:=ApS co.out b3;have ek:Hid (E=0):=by unfold Hid;rw[<-cr.out];exact TH co.out b3
    have dk:=U cf.1;have dm:Hid (OK T (AQ T ao)=L):=cf.2.trans df.out;obtain⟨dn,dq,cO,c2⟩:=ce.ap;have ds:=U c2;obtain⟨m,F⟩:∃m,(AQ T ao).length=m:=⟨_,rfl⟩;have cg:=λW (b7:Ah W x T) b8 b9=>Aqx x T dn dq (AQ T ao) 0 L W b7 b8 b9 O dk dm;rw[F]at cO cg;subst cO;have dx:=U cg;have ci:Hid (Below w.heap.size w wr):=s.out.ab;clear b3 ce cf c2 F cg;obtain⟨⟨G,ac,ad,am,a9,a'⟩,⟨ba,bc,bd,be,bs,bt⟩⟩:=s.out.box.load;go_wp2_with fail;refine(dx.out _ s.out.tab (cq.out.below s.out.ab) ds.out).mono ?_;rintro e w3 ⟨c',rfl,C,c3⟩;have cc:=U (C.mono ci.out.size);have b2:=U (ci.out.trans (c3.mono ci.out.size));clear C c3 G ac ad am a9 a' ba bc bd be bs bt;go_wp2;go_ret2;rw[ek.out];exact⟨_,rfl,cc.out,b2.out⟩
 ·have dM:(A !=0)=true:=by simp[bl]
  have ek:Hid (E=A):=Azn;have fx:Hid (L=[]):=Ay6;have eT:=U (bx.out.step b0.out).ab;clear bl;exact Awo
def Akp{l:List Sp}(h:BA l=true):AH 0 l=true:=by
 unfold BA at h;simp only[AJ]at h;exact h.1
def Ako{T:Y}(h:r2 T=true):AL 0 1114111 (AC T.map)=true:=by
 unfold r2 at h;simp only[AJ]at h;exact Aa4 h.2.2.1
def AtX{T:Y}(h:Av T=0)(c:Int):0<=AM T c/\AM T c<=4:=by
 have b:=(CO h).2.2.1;unfold r3 at b;simp only[AJ]at b;have eB:=b.2.2.2.2.2.1;unfold DB at eB;unfold AM;cases dH:val T.ag c with
 | some v =>
  exact Azm
 | none =>
  rw[PS];unfold F4;exact Aia
def Ar5(x:TV)(T:Y)(p:Option Addr)(cap:Nat)(ao:List Int)(E:Int)(w:World)(c:Ah w x T)(h:Bi w)(k:Aq w p ao)(m:ao.length<=17592186043904)(s:Hid (AB T ao=E)):Calls prog 150 #[x.agg,.slice p ao.length cap] w (Ar (.int .i64 E) w):=by
 obtain⟨A,C⟩:∃L,Hid (LF T ao=L):=⟨_,rfl⟩;have b:=λW (F:Ah W x T) G ad=>O3 x T p cap ao E A W F G ad m s C;have dm:=U h;have ac:=U (Am.new c);have dG:=U k;obtain⟨n,q⟩:∃n,ao.length=n:=⟨_,rfl⟩;rw[q]at m b|-;have iL:=U b;clear c k q h b;simp only[TV.agg];go_enter func150,ntmps150;exact UY
def Apr(x:TV)(T:Y)(p:Option Addr)(cap:Nat)(ao:List Int)(L:List Int)(K:Nat)(E:Int)(w:World)(bx:Ah w x T)(b4:Bi w)(b6:Aq w p ao)(b7:ao.length<=17592186043904)(c8:Hid (Bl T ao=(L,K,E))):Calls prog 103 #[x.agg,.slice p ao.length cap] w (Vw L K E w):=by
 obtain⟨A,co⟩:∃A,Hid (AB T ao=A):=⟨_,rfl⟩;have cd:=U b4;have ac:=U (Am.new bx);have eh:=U bx;have b8:=U b6;have b0:=λW (ce:Ah W x T) cf cg=>Ar5 x T p cap ao A W ce cf cg b7 co;obtain⟨n,b1⟩:∃n,ao.length=n:=⟨_,rfl⟩;rw[b1]at b7 b0|-;have bb:=U b1;have ci:=U b0;clear bx b6 b1 b4 b0;simp only[TV.agg];go_enter func103,ntmps103;obtain⟨⟨h,m,q,s,C,F⟩,⟨G,ad,am,a9,a',ba⟩⟩:=ac.out.box.load;go_wp2_with fail;refine(ci.out _ ac.out.tab (cd.out.below ac.out.ab) (b8.out.below ac.out.ab)).mono ?_;rintro e w1 ⟨rfl,cC⟩;have b9:Hid (w.heap.size+1<=w1.heap.size):=UB;replace ac:=U (ac.out.step cC);clear cC h m q s C F G ad am a9 a' ba;by_cases bl:A=0
 ·subst bl;have c2:n<=4096:=Pv;have bv:Hid (Av T=0):=(CN co.out).1;have i5:Hid (ao.all AA=true):=(CN co.out).2.2;have cj:Hid (AH 0 T.ag=true):=Akp (OV (CO bv.out).2.1);have cl:Hid (AL 0 1114111 (AC T.map)=true):=Ako (CO bv.out).2.1;have c3:=OZ n O;go_wp2;go_loopw[8,22] (λu i wr=>∃k:Nat,k<=n/\i=.int .i64 k/\Hid (Ak wr (w.heap.size+1) u (AF T (ao.take k)))/\Hid (∀j,j<k->AM T (ao.getD j 0)≠0)/\Hid (Am w x T wr)/\Hid (w.heap.size+1<=wr.heap.size)) (λ_ i _=>n-(intOf i).toNat)
  case atStart=>exact⟨0,Au _,rfl,by simpa[Hid,AF] using Ak.made w1 (w.heap.size+1) n b9.out O,λj ed=>O,ac.out.step ((Al _ _).alloc (Ac _) _),by have:=b9.out;simp[Hid];omega⟩
  case round=>
   obtain⟨k,c4,rfl,cm,cA,bc,cp⟩:=hrel;by_cases cq:k<n
   ·have dJ:k<ao.length:=by rw[bb.out];exact cq
    obtain⟨b,ff,rfl,b'⟩:=(b8.out.below bc.out.ab) k dJ;obtain⟨c,cB⟩:∃c,ao.getD k 0=c:=⟨_,rfl⟩;rw[cB]at b';obtain⟨z,b5⟩:∃z,Hid (AM T c=z):=⟨_,rfl⟩;have b2:=Ad0 T ao k dJ;have f9:=W8 bv.out i5.out k;rw[cB]at b2;have hO:=U b2;have cr:Hid (z≠0->∀j,j<k+1->AM T (ao.getD j 0)≠0):=λeI j ed=>AAu;have lq:Hid (z=0->ER T 0 ao=some k):=λeI=>AwF;have cs:Hid (0<=z/\z<=4):=by have:=AtX bv.out c;rw[b5.out]at this;exact this
    have lv:Hid (AA c=true):=AzI;have km:=U f9;clear cB b2 f9 cA dJ;obtain⟨⟨h,m,q,s,C,F⟩,⟨G,ad,am,a9,a',ba⟩⟩:=bc.out.box.load;go_wp2_with fail;refine(Um x T c z _ bc.out.tab cj.out b5).mono ?_;rintro e w2 ⟨rfl,be⟩;have dL:=U (bc.out.step be);have iF:=U (cm.out.below be);have iM:w.heap.size+1<=w2.heap.size:=Af cp.out be.size;clear be cm bc b' h m q s C F G ad am a9 a' ba;by_cases eI:z=0
    ·have d_:(z==1)=false:=by simp[eI]
     have b3:(z==4)=false:=by simp[eI]
     have ca:(z==3)=false:=by simp[eI]
     have cu:(z==2)=false:=by simp[eI]
     exact AyD
    ·have lu:=U (cr.out eI);by_cases e':z=3
     ·have d_:(z==1)=false:=by simp[e']
      have b3:(z==4)=false:=by simp[e']
      have ca:(z==3)=true:=by simp[e']
      obtain⟨X,eE⟩:∃X,Hid (FP T c=X):=⟨_,rfl⟩;have kp:Hid (AF T (ao.take (k+1))=AF T (ao.take k)++X):=AwU;have cv:Hid (X.length<=18):=AvZ;obtain⟨⟨h,m,q,s,C,F⟩,⟨G,ad,am,a9,a',ba⟩⟩:=dL.out.box.load;clear eI e';go_wp2_with fail;refine(Auw x T c X _ dL.out.tab cl.out eE).mono ?_;rintro e w3 ⟨cx,cy,cD,rfl,cb,cF,cc,bs⟩;have dF:=U (dL.out.step bs);have jY:=U (iF.out.below bs);have ko:w.heap.size+1<=w3.heap.size:=Af iM bs.size;have cI:=U cb;have cO:=U cc;clear bs cb cF cc h m q s C F G ad am a9 a' ba;go_wp2_with (at_builtin;(refine De (.tmp 40) (.tmp 43) rfl rfl (w.heap.size+1) u8 (AF T (ao.take k)) rfl jY.out cx cy cD X cI.out rfl cO.out (by have:=km.out;have:=cv.out;omega) ko ?_);intro v4 eC iC e8);exact AxX
     ·have ca:(z==3)=false:=by simp[e']
      by_cases kl:z=1\/z=4
      ·have kp:Hid (AF T (ao.take (k+1))=AF T (ao.take k)++[c]):=by unfold Hid;rw[hO.out,AdV Ai5]
       rcases kl with bt|bt
       ·have d_:(z==1)=true:=by rw[bt];decide
        exact AzQ
       ·have d_:(z==1)=false:=by rw[bt];decide
        have b3:(z==4)=true:=by rw[bt];decide
        exact AzQ
      ·have d_:(z==1)=false:=by simp;omega
       have b3:(z==4)=false:=Ae;have cu:(z==2)=true:=by have:=cs.out;simp;omega
       exact Az3
   ·exact AxI
 ·exact Ax_
def Oq{T:Y}(h:Av T=0):Jf T:=by
 obtain⟨b,c,e,k,m⟩:=CO h;exact VR b c e k m
def Abz(x:TV)(T:Y)(c:Int)(B:Bool)(w:World)(m:Ah w x T)(q:AL 0 1114111 (AC T.dec)=true)(s:Hid (decide (As T.dec c≠[])=B)):Calls prog 269 #[x.agg,.int .i64 c] w (Ar (.bool B) w):=by
 obtain⟨L,b⟩:∃L,Hid (As T.dec c=L):=⟨_,rfl⟩;have ac:=U (Am.new m);have F:=U q;clear m q;simp only[TV.agg];go_enter func269,ntmps269;obtain⟨⟨G,ad,am,a9,a',ba⟩,⟨bc,bd,be,bl,bs,bt⟩⟩:=ac.out.box.load;go_wp2_with fail;refine(O9 x T c L _ ac.out.tab F.out b).mono ?_;rintro e w1 ⟨bx,rfl,A,C⟩;obtain⟨b0,b1,rfl,bv⟩:=A.ap;replace ac:=U (ac.out.step C);obtain⟨n,h⟩:∃n,L.length=n:=⟨_,rfl⟩;rw[h];have bb:=U h;clear A bv C h G ad am a9 a' ba bc bd be bl bs bt;by_cases b2:0<n
 ·have b3:decide ((0:Int)<(n:Int))=true:=At O;have k:Hid (B=true):=by unfold Hid;rw[<-s.out,b.out];exact At (λe=>Ahv)
  go_wp2;go_ret;rw[k.out];exact JO
 ·obtain rfl:n=0:=by omega
  have k:Hid (B=false):=by unfold Hid;rw[<-s.out,b.out,Bw bb.out];rfl
  go_wp2;go_ret;rw[k.out];exact JO
def Abt(x:TV)(T:Y)(f:Int)(w:World)(c:Ah w x T)(h:AL 0 1114111 (AC T.dec)=true)(b:(As T.dec f).length≠2):Calls prog 227 #[x.agg,.int .i64 f] w (Ar (.bool (AV T f)) w):=by
 have ac:=U (Am.new c);have A:Hid (AV T f=false):=Mb b;have C:=U h;obtain⟨L,k⟩:∃L,Hid (As T.dec f=L):=⟨_,rfl⟩;rw[k.out]at b;clear c h;simp only[TV.agg];go_enter func227,ntmps227;obtain⟨⟨F,G,ad,am,a9,a'⟩,⟨ba,bb,bc,bd,be,bl⟩⟩:=ac.out.box.load;go_wp2_with fail;refine(O9 x T f L _ ac.out.tab C.out k).mono ?_;rintro e w1 ⟨bt,rfl,m,q⟩;obtain⟨bv,bx,rfl,bs⟩:=m.ap;replace ac:=U (ac.out.step q);obtain⟨n,s⟩:∃n,L.length=n:=⟨_,rfl⟩;rw[s]at b|-;have b0:((n:Int) !=2)=true:=Ae;clear m bs q s F G ad am a9 a' ba bb bc bd be bl;go_wp2;go_ret;rw[A.out];exact JO
def AkU(T:Y)(h:Av T=0)(k:Nat):∀(x:TV) (f:Int) (w:World),Dp T.dec k f->Ah w x T->Calls prog 227 #[x.agg,.int .i64 f] w (Ar (.bool (AV T f)) w):=by
 have m:=U (Oq h);have c6:=U h;clear h
 induction k with
 | zero =>
  intro x f w b4 bv;exact Abt x T f w bv m.out.dec (by rw[show As T.dec f=[]from b4];simp)
 | succ k cr =>
  have c7:=U cr;clear cr;intro x f w b4 bv;by_cases b8:(As T.dec f).length=2
  ·obtain⟨a,b,cj⟩:∃a b,As T.dec f=[a,b]:=by
    match As T.dec f,b8 with
    | [a,b],_=>exact⟨a,b,rfl⟩
   have b9:=Qg (m.out.dp f) cj;have cs:Dp T.dec k a:=b4 a Hy;obtain⟨bc,b'⟩:∃bc,AV T f=bc:=⟨_,rfl⟩;obtain⟨ct,cu⟩:∃B,Hid (Kh T f=B):=⟨_,rfl⟩;obtain⟨b5,cv⟩:∃z,Hid (Ao T f=z):=⟨_,rfl⟩;obtain⟨bx,ca⟩:∃z,Hid (Ao T a=z):=⟨_,rfl⟩;obtain⟨bb,b6⟩:∃z,Hid (Ao T b=z):=⟨_,rfl⟩;obtain⟨cx,cy⟩:∃B,Hid (decide (As T.dec b≠[])=B):=⟨_,rfl⟩;obtain⟨cA,cb⟩:∃B,Hid (decide (As T.dec a≠[])=B):=⟨_,rfl⟩;obtain⟨c8,cc⟩:∃B,Hid (AV T a=B):=⟨_,rfl⟩;obtain⟨b0,cd⟩:∃z,Hid (Ao T (Is T.dec a)=z):=⟨_,rfl⟩;rw[cu.out,cv.out,ca.out,b6.out,Ns m.out b,Ns m.out a,cy.out,cb.out,cc.out,cd.out,b']at b9;rw[b'];have dS:0<=bb:=by rw[<-b6.out];exact m.out.pos b
   have fj:=U b9;have c9:=U cs;have c':Hid (As T.dec f=[a,b]):=cj;have ac:=U (Am.new bv);clear b9 b' cs b4 bv cj b8;simp only[TV.agg];go_enter func227,ntmps227;obtain⟨⟨q,s,A,C,F,G⟩,⟨L,ad,am,a9,a',ba⟩⟩:=ac.out.box.load;go_wp2_with fail;refine(O9 x T f [a,b] _ ac.out.tab m.out.dec c').mono ?_;rintro e w1 ⟨dT,rfl,cB,c⟩;obtain⟨dU,dV,rfl,ce⟩:=cB.ap;obtain⟨cC,cD,rfl,cf⟩:=ce 0 J;obtain⟨dW,dX,cg,ci⟩:=ce 1 J;injection cg with cg;injection cg with da db;subst da;subst db;simp only[DI,CS,E_,BB,Gh,BY]at cf ci|-;replace ac:=U (ac.out.step c);have b7:=U (show w1.cell? ⟨cC,cD,none⟩=some (.int .i64 a)/\w1.cell? ⟨cC,cD+1,none⟩=some (.int .i64 b) from⟨cf,ci⟩);clear cB ce c cf ci q s A C F G L ad am a9 a' ba;obtain⟨⟨q,s,A,C,F,G⟩,⟨L,ad,am,a9,a',ba⟩⟩:=ac.out.box.load;go_wp2_with fail;refine(AcG _ T f ct _ ac.out.tab m.out.af cu).mono ?_;rintro e w2 ⟨rfl,c⟩;replace ac:=U (ac.out.step c);replace b7:=U (AgK b7.out c);clear c q s A C F G L ad am a9 a' ba;cases ct with
   | true =>
    go_wp2;go_ret;exact⟨by rw[fj.out];rfl,ac.out.ab⟩
   | false =>
    obtain⟨dc,r1⟩:=b7.out;go_wp2;go_quiet (fail);generalize fE:World.drewN w2 _=w3;have cF:Below w2.heap.size w2 w3:=Rx;replace ac:=U (ac.out.step cF);clear fE cF dc r1 b7;obtain⟨⟨q,s,A,C,F,G⟩,⟨L,ad,am,a9,a',ba⟩⟩:=ac.out.box.load;go_wp2_with fail;refine(Hn _ T f b5 _ ac.out.tab m.out.ai cv).mono ?_;rintro e dY ⟨rfl,c⟩;replace ac:=U (ac.out.step c);clear c q s A C F G L ad am a9 a' ba;by_cases eK:b5=0
    ·have df:(b5 !=0)=false:=by simp[eK]
     have fh:=U eK;clear eK;obtain⟨⟨q,s,A,C,F,G⟩,⟨L,ad,am,a9,a',ba⟩⟩:=ac.out.box.load;go_wp2_with fail;refine(Hn _ T a bx _ ac.out.tab m.out.ai ca).mono ?_;rintro e dZ ⟨rfl,c⟩;replace ac:=U (ac.out.step c);clear c q s A C F G L ad am a9 a' ba;by_cases dE:bx=0
     ·have dj:(bx !=0)=false:=by simp[dE]
      have h7:=U dE;clear dE;obtain⟨⟨q,s,A,C,F,G⟩,⟨L,ad,am,a9,a',ba⟩⟩:=ac.out.box.load;go_wp2_with fail;refine(Abz _ T b cx _ ac.out.tab m.out.dec cy).mono ?_;rintro e w6 ⟨rfl,c⟩;replace ac:=U (ac.out.step c);clear c q s A C F G L ad am a9 a' ba;cases cx with
      | true =>
       go_wp2;go_ret;exact⟨by rw[fj.out];simp,ac.out.ab⟩
      | false =>
       obtain⟨⟨q,s,A,C,F,G⟩,⟨L,ad,am,a9,a',ba⟩⟩:=ac.out.box.load;go_wp2_with fail;refine(Abz _ T a cA _ ac.out.tab m.out.dec cb).mono ?_;rintro e d0 ⟨rfl,c⟩;replace ac:=U (ac.out.step c);clear c q s A C F G L ad am a9 a' ba;cases cA with
       | false =>
        have fi:Hid (bc=true):=by
         have b1:As T.dec a=[]:=by
          have:=cb.out;simp only[L3,ne_eq,Classical.not_not]at this;exact this
         have cl:b0=bx:=by rw[<-cd.out,AdB b1,ca.out]
         exact Ay2
        exact RN
       | true =>
        obtain⟨⟨q,s,A,C,F,G⟩,⟨L,ad,am,a9,a',ba⟩⟩:=ac.out.box.load;go_wp2_with fail;have cm:=c7.out x a _ c9.out ac.out.tab;rw[cc.out]at cm;refine cm.mono ?_;rintro e dk ⟨rfl,c⟩;replace ac:=U (ac.out.step c);clear c cm q s A C F G L ad am a9 a' ba;cases c8 with
        | false =>
         have fi:Hid (bc=false):=by unfold Hid;rw[fj.out];simp
         exact RN
        | true =>
         obtain⟨co,bl,b1,_,_,cI,_⟩:=SX c6.out cc.out;have cO:=AdC (m.out.dp a) b1 cI.2.1;have dm:Hid (Ao T bl=b0):=by unfold Hid;rw[<-cO];exact cd.out
         have c2:Hid (As T.dec a=[co,bl]):=b1;have c3:Hid (bc=(decide (bb=0)||decide (b0<=bb))):=by
          unfold Hid;rw[fj.out,fh.out,h7.out];simp
         clear b1 cI cO;go_upto_region 10 with(fail);go_cut[8,9] (λu v dn=>u=.int .i64 bl/\v=.int .i64 bb/\Hid (Am w x T dn))
         case first=>
          have c4:=ac.out.step (Bx dk);have bd:=U c4;clear c4;obtain⟨⟨q,s,A,C,F,G⟩,⟨L,ad,am,a9,a',ba⟩⟩:=bd.out.box.load;go_region_with (first
           | (go_at_call 266;(with_reducible refine(O9 x T a [co,bl] _ bd.out.tab m.out.dec c2).mono ?_);rintro e c5 ⟨v9,rfl,cp,b2⟩;obtain⟨p9,dq,be,cq⟩:=cp.ap;subst be;obtain⟨ds,dx,be,b3⟩:=cq 1 J;subst be;simp only[DI,CS,BB,Gh,BY]at b3|-;obtain⟨⟨dy,dz,dF,dG,dH,dJ⟩,⟨dK,dL,dM,dN,dO,dP⟩⟩:=(bd.out.step b2).box.load)
           | (go_at_call 155;(with_reducible refine(Hn x T b bb _ bd.out.tab m.out.ai b6).mono ?_);rintro e dQ ⟨rfl,bs⟩;obtain⟨⟨dy,dz,dF,dG,dH,dJ⟩,⟨dK,dL,dM,dN,dO,dP⟩⟩:=(bd.out.step bs).box.load)
           | (go_at_call 155;(with_reducible refine(Hn x T b bb _ (bd.out.step b2).tab m.out.ai b6).mono ?_);rintro e dQ ⟨rfl,bs⟩;have d1:=(bs.cell (AN _ _ b3)).trans b3)
           | (go_at_call 266;(with_reducible refine(O9 x T a [co,bl] _ (bd.out.step bs).tab m.out.dec c2).mono ?_);rintro e c5 ⟨v9,rfl,cp,b2⟩;obtain⟨p9,dq,be,cq⟩:=cp.ap;subst be;obtain⟨ds,dx,be,b3⟩:=cq 1 J;subst be;simp only[DI,CS,BB,Gh,BY]at b3|-)
           | fail)
          all_goals
           first
            | (have cj := (bd.out.step b2).step bs
               try (go_wp2_with fail)
               go_meet
               exact⟨rfl,rfl,cj⟩)
            | (have cj := (bd.out.step bs).step b2
               try (go_wp2_with fail)
               go_meet
               exact⟨rfl,rfl,cj⟩)
            | fail
         case rest=>
          obtain⟨rfl,rfl,ac⟩:=hcut;generalize wc=c5 at ac|-;by_cases bt:bb=0
          ·have dR:(bb==0)=true:=by simp[bt]
           have fi:Hid (bc=true):=by unfold Hid;rw[c3.out,bt];simp
           clear bt;exact RN
          ·have dR:(bb==0)=false:=by simp[bt]
           have fi:Hid (bc=decide (b0<=bb)):=by unfold Hid;rw[c3.out,Ai bt];simp
           clear bt;obtain⟨⟨q,s,A,C,F,G⟩,⟨L,ad,am,a9,a',ba⟩⟩:=ac.out.box.load;go_wp2_with fail;refine(Hn _ T bl b0 _ ac.out.tab m.out.ai dm).mono ?_;rintro e d2 ⟨rfl,c⟩;replace ac:=U (ac.out.step c);clear c q s A C F G L ad am a9 a' ba;exact RN
     ·have dj:(bx !=0)=true:=by simp[dE]
      have fi:Hid (bc=false):=AhF;clear dE;exact RN
    ·have df:(b5 !=0)=true:=by simp[eK]
     have fi:Hid (bc=false):=AhG;clear eK;exact RN
  ·exact Abt x T f w bv m.out.dec b8
def AkV(x: TV)(T: Y)(c: Int)(B: Bool)(w: World)(b: Ah w x T)(h: Av T = 0)(e: Hid (AV T c = B)) :
  Calls prog 227 #[x.agg,.int .i64 c] w (Ar (.bool B) w):=e.out▸AkU T h 256 x c w (Nb h c) b
def AkC(x:TV)(T:Y)(p:Option Addr)(n cap:Nat)(M:List Int)(z:Int)(B:Bool)(w:World)(A:Ah w x T)(C:AH 0 T.ai=true)(F:Aq w p M)(c:Hid (M.length=n))(bs:n<=17592186043904)(G:Hid (decide (M≠[]/\z<=Ao T (M.getD (M.length-1) 0))=B)):Calls prog 156 #[x.agg,.slice p n cap,.int .i64 z] w (Ar (.bool B) w):=by
 have b:=U (Am.new A);have a9:=U F;have a':=U C;clear A F C;simp only[TV.agg];go_enter func156,ntmps156;by_cases ba:0<n
 ·have bt:decide ((0:Int)<(n:Int))=true:=At O;obtain⟨m,rfl⟩:∃m,n=m+1:=⟨n-1,O⟩;obtain⟨L,ac,rfl,h⟩:=(a9.out.below b.out.ab) m (by rw[c.out];omega);obtain⟨y,q⟩:∃y,M.getD m 0=y:=⟨_,rfl⟩;rw[q]at h;obtain⟨ad,am⟩:∃z,Hid (Ao T y=z):=⟨_,rfl⟩;have bb:Hid (decide (z<=ad)=B):=by
   unfold Hid;have bc:M≠[]:=λe=>by have:=c.out;rw[e]at this;simp at this
   rw[<-G.out,c.out,PR,q,am.out];simp[bc]
  have bv:IntKind.i64.wrap (((m+1:Nat):Int)-1)=(m:Int):=H_;have bx:IntKind.i64.wrap (m:Int)=(m:Int):=AT _ O;have b0:((m+1:Nat):Int)=(m:Int)+1:=O;have b2:(m:Int)+1-1=(m:Int):=O;have b3:(0:Int)<=(m:Int):=O;have b4:(m:Int)<(m:Int)+1:=O;have k:=U (b.out.step (Bx _));clear q ba;obtain⟨⟨b5,b6,b7,b8,b9,b'⟩,⟨ca,cb,cc,cd,ce,cf⟩⟩:=b.out.box.load;go_upto_region 4 with(fail);go_cut[6] (λv bd=>v=.bool B/\Hid (Below w.heap.size w bd))
  case first=>
   go_region_held3 (λw'=>w'.cell? ⟨L,ac+m,none⟩=some (.int .i64 y)/\J_ w.heap.size x w')
    (first
     | exact⟨h,k.out.box.flat⟩
     | exact⟨(s.cell (p:=⟨L,ac+m,none⟩) (AN _ _ h)).trans h,(k.out.step s).box.flat⟩)
    (first
     | (go_at_call 155;(with_reducible refine(Hn x T y ad _ k.out.tab a'.out am).mono ?_);rintro e cg ⟨rfl,s⟩)
     | fail)
   all_goals
    have be:=(k.out.step s).ab
    try (go_wp2_with fail)
    go_meet;exact⟨by rw[bb.out],be⟩
  case rest=>
   obtain⟨rfl,b1⟩:=hcut;exact ML
 ·obtain rfl:n=0:=by omega
  have bl:Hid (B=false):=by unfold Hid;rw[<-G.out,Bw c.out];simp
  go_wp2;go_quiet (fail);go_wp2;go_ret;rw[bl.out];exact⟨rfl,by first|exact b.out.ab|exact(b.out.step (V5 _ _)).ab⟩
def Ag0(T:Y){a b x:Int}(h:Fo a b=(x,true)):IX T a b=(x,true):=by unfold IX;rw[Aq4 h]
def Ag1(T:Y){a b x:Int}(h:Fo a b=(x,false)):IX T a b=IZ T a b:=by
 unfold IX Db IZ;rw[h];simp only[U5,if_false];cases T.dec.find? λm=>decide (m.2=[a,b])&&AV T m.1<;>rfl
def AoI(T:Y)(B h:Nat)(a b p:Int)(o:Bool)(w:World)(m:Jh T B h w)(C:Av T=0)(F:GF a)(G:GF b)(q:Hid (IX T a b=(p,o))):Calls prog 157 #[.agg #[.map (some B),.map (some h)],.int .i64 a,.int .i64 b] w (Ar (.tuple #[.int .i64 p,.bool o]) w):=by
 obtain⟨⟨L,s⟩,k⟩:∃y,Fo a b=y:=⟨_,rfl⟩;have ac:=U (m.below ((Al _ _).alloc (Ac _) (.cells #[.map (some B),.map (some h)] 150)));have b1:=U ((Al w.heap.size w).alloc (Ac _) (.cells #[.map (some B),.map (some h)] 150));clear m;go_enter func157,ntmps157;go_wp2_with fail;refine(Anx a b L s _ k).mono ?_;rintro e w1 ⟨rfl,rfl⟩;cases s with
 | true =>
  have c:=q.out;rw[Ag0 T k]at c;simp only[DY]at c;obtain⟨rfl,rfl⟩:=c;exact Ai7
 | false =>
  have c:=q.out;rw[Ag1 T k]at c;have A:=ac.out.look C F G;rw[c]at A;simp only at A;clear c k;exact Ai7
end Go.Proofs.YtblcoicaeeiojaaGreatDoor
