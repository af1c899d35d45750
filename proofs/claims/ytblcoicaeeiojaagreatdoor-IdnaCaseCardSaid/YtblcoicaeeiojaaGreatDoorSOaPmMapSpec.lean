/- The contracts of order:  -/
import Derived.Test.YtblcoicaeeiojaaGreatDoorSOaTblJ
set_option linter.all false
set_option maxHeartbeats 4000000
set_option maxRecDepth 100000
open Go.Proofs.Tryz
namespace Go.Proofs.YtblcoicaeeiojaaGreatDoor
open Go.RowKit
def OK(T:Y)(l:List Int):List Int:=if AB T l=0 then Bh (Ao T) l else []
def opens(T:Y)(l:List Int):List Bool:=l.map λc=>decide (Ao T c≠0)
def LF(T:Y)(l:List Int):List Int:=if AB T l=0 then O1 (opens T l)else []
structure Ld (w0:World) (B1 B2:Nat) (vC vO:Value) (C O:List Int) (w:World):Prop where
 ai:Ak w B1 vC C
 ord:Ak w B2 vO O
 lo:∀b,vC.ownBlock=some b->b<B2
 ab:Below w0.heap.size w0 w
 h1:w0.heap.size<=B1
 h2:w0.heap.size<=B2
theorem Ld.wO{w0 w w':World}{s m:Nat}{q c:Value}{A O C:List Int}(h:Ld w0 s m q c A O w)(dI:Ak w' m c C)(F:w.grownBy w' c.ownBlock):Ld w0 s m q c A C w':=by
 refine⟨N8 h.ai F ?_,dI,h.lo,h.ab.grown F h.ab.size (λk G=>Af h.h2 (h.ord.base k G)),h.h1,h.h2⟩;cases L:q.ownBlock with
 | none=>exact .inl rfl
 | some b=>exact .inr (λe=>by have a1:=h.lo b L;have a2:=h.ord.base b e.symm;omega)
theorem Ld.wC{w0 w w':World}{m s:Nat}{c q:Value}{F A O:List Int}(h:Ld w0 m s c q F O w)(dI:Ak w' m c A)(C:w.grownBy w' c.ownBlock):Ld w0 m s c q A O w':=by
 refine⟨dI,N8 h.ord C ?_,h.lo,h.ab.grown C h.ab.size (λk G=>Af h.h1 (h.ai.base k G)),h.h1,h.h2⟩;cases L:q.ownBlock with
 | none=>exact .inl rfl
 | some b=>exact .inr (λe=>by have a1:=h.lo b e.symm;have a2:=h.ord.base b L;omega)
def AbO{T:Y}(h:Av T=0)(c:Int):0<=Ao T c:=Afj (AbE h).2 c
def Anj(T:Y)(O:List Int)(k:Nat)(b:k<O.length):(O.map (Ao T)).getD k 0=Ao T (O.getD k 0):=by
 simp[List.getD,CI b]
def Aqx(x:TV)(T:Y)(p:Option Addr)(cap:Nat)(ao:List Int)(E:Int)(L:List Int)(w:World)(b7:Ah w x T)(b8:Bi w)(b9:Aq w p ao)(bs:ao.length<=17592186043904)(cr:Hid (AB T ao=E))(b':Hid (OK T ao=L)):Calls prog 226 #[x.agg,.slice p ao.length cap] w (M0 L E w):=by
 have ac:=U (Am.new b7);have ca:=U b9;have cD:=U b8;obtain⟨C,f3⟩:∃C,Hid (Oo T ao=C):=⟨_,rfl⟩;obtain⟨n,bt⟩:∃n,ao.length=n:=⟨_,rfl⟩;have bv:=λW cF cI dI=>AbM x T p cap ao E C W cF cI dI bs cr f3;rw[bt]at bs bv|-;have m:=U bt;have cO:=U bv;clear b7 b8 b9 bt bv;simp only[TV.agg];go_enter func226,ntmps226;obtain⟨⟨c2,c3,c4,c5,c6,c7⟩,⟨c8,c9,c',da,db,dc⟩⟩:=ac.out.box.load;go_wp2_with fail;refine(cO.out _ ac.out.tab (cD.out.below ac.out.ab) (ca.out.below ac.out.ab)).mono ?_;rintro e w1 ⟨df,rfl,cb,cC⟩;have dN:Hid (w.heap.size+1<=w1.heap.size):=UB;have am:Hid (Ak w1 (w.heap.size+1) df C):=by unfold Hid;simpa using cb
 replace ac:=U (ac.out.step cC);clear cC cb c2 c3 c4 c5 c6 c7 c8 c9 c' da db dc;by_cases a9:E=0
 ·subst a9;have dj:Hid (Av T=0):=(CN cr.out).1;have dO:n<=4096:=by rw[<-m.out];exact(CN cr.out).2.1
  have cc:Hid (C=ao.map (Ao T)):=AwI;have bx:Hid (L=Bh (Ao T) ao):=by unfold Hid;rw[<-b'.out];unfold OK;rw[cr.out,N rfl]
  have dk:=OZ n O;obtain⟨F,G,cd,dm⟩:=am.out.ap;clear dm;have ce:C.length=n:=by rw[cc.out,C6];exact m.out
  rw[ce]at cd;subst cd;have dn:w1.heap.size<=(w1.alloc (Hs n)).heap.size:=J;clear ce;go_wp2_with (at_builtin;refine De (.tmp 22) (.tmp 23) rfl rfl w1.heap.size (.slice (some ⟨w1.heap.size,0,none⟩) 0 n) [] rfl (Ak.made w1 w1.heap.size n (Ac _) O) p n cap ao m.out rfl ((ca.out.below ac.out.ab).alloc _) (by rw[m.out];simp;omega) dn ?_;intro dq w2 a' ba);rw[Cv]at a';have cf:Ld w (w.heap.size+1) w1.heap.size (.slice F n G) dq C ao w2:=by
   have dP:=ba;refine⟨?_,a',λb ds=>(Bs am.out b ds).2,?_,KY _,ac.out.ab.size⟩
   ·exact N8 (CG am.out _) ba (by
     cases dx:(Value.slice F n G).ownBlock with
     | none=>exact .inl rfl
     | some b=>exact .inr (λe=>by have:=(Bs am.out b dx).2;simp[Value.ownBlock]at e;omega))
   ·exact(ac.out.ab.alloc ac.out.ab.size _).grown ba (by have:=ac.out.ab.size;simp;omega) (λk cg=>by have:=ac.out.ab.size;simp[Value.ownBlock]at cg;omega)
  obtain⟨bb,bc,ci,dy⟩:=a'.ap;clear dy;rw[m.out]at ci;subst ci;have cj:Hid (Ld w (w.heap.size+1) w1.heap.size (.slice F n G) (.slice bb n bc) ((EY (Ao T) ao 0).map (Ao T)) (EY (Ao T) ao 0) w2):=by
   unfold Hid;rw[Aqm,<-cc.out];exact cf
  generalize dQ:w1.heap.size=b0 at cj;clear a' ba cf dk;go_wp2;go_simp;go_wp2;go_loopw[9,10,27] (λ_ _ i wr=>∃k:Nat,k<=n/\i=.int .i64 k/\Hid (Ld w (w.heap.size+1) b0 (.slice F n G) (.slice bb n bc) ((EY (Ao T) ao k).map (Ao T)) (EY (Ao T) ao k) wr)) (λ_ _ i _=>n-(intOf i).toNat)
  case atStart=>exact⟨0,Au _,rfl,cj⟩
  case round=>
   obtain⟨k,cg,rfl,s⟩:=hrel;by_cases bd:k<n
   ·have be:(EY (Ao T) ao k).length=n:=by rw[Aqk];exact m.out
    obtain⟨h,cl⟩:∃h,EY (Ao T) ao k=h:=⟨_,rfl⟩;obtain⟨b1,b2⟩:∃h,EY (Ao T) ao (k+1)=h:=⟨_,rfl⟩;have A:=Aql (Ao T) ao k (by rw[m.out];exact bd);rw[cl]at s be A;rw[b2]at A;obtain⟨K,ad⟩:∃K,h.map (Ao T)=K:=⟨_,rfl⟩;have b3:K.length=n:=by rw[<-ad,C6];exact be
    obtain⟨c,b4⟩:∃c,K.getD k 0=c:=⟨_,rfl⟩;have b5:Ao T (h.getD k 0)=c:=by rw[<-b4,<-ad,Anj T h k O]
    have dz:0<=c:=by rw[<-b5];exact AbO dj.out _
    rw[ad]at s A;rw[b5]at A;obtain⟨P,bl⟩:∃P,EZ K c k=P:=⟨_,rfl⟩;rw[bl]at A;have cm:P<=k:=by rw[<-bl];exact XG _ _ _
    have co:Lv K k P=b1.map (Ao T):=by rw[<-ad,<-ApJ (Ao T) h k P O,A]
    obtain⟨q,dR,cp,cq⟩:=s.out.ai.ap;rw[b3]at cp;cases cp;have dE:=U cq;have dF:=U bl;have dG:=U A;have dH:=U co;have b6:=U b3;have dJ:=U b4;have cs:=U be;have dK:=U b2;clear cl b2 A ad b3 b4 b5 bl co cq be;go_wp2_with fail;refine(Arj F n G k P K c _ dE.out b6 bs bd dJ dz dF).mono ?_;rintro e w3 ⟨rfl,rfl⟩;go_wp2_with fail;refine(Ad_ b0 (.slice bb n bc) h b1 k P _ s.out.ord (by rw[cs.out];exact bd) cm (by rw[cs.out];omega) dG).mono ?_;rintro e w3 ⟨rfl,ct,cu⟩;have cv:=U (s.out.wO ct cu);clear ct cu;go_wp2_with fail;refine(Ad_ (w.heap.size+1) (.slice F n G) K (b1.map (Ao T)) k P _ cv.out.ai (by rw[b6.out];exact bd) cm (by rw[b6.out];omega) dH).mono ?_;rintro e dS ⟨rfl,cx,cy⟩;have dL:=U (cv.out.wC cx cy);clear cx cy;go_wp2;go_roundw
    case rel=>exact⟨k+1,O,An,by rw[dK.out];exact dL⟩
    case measure=>simp[intOf];omega
   ·obtain rfl:k=n:=by omega
    have cA:EY (Ao T) ao k=L:=by rw[bx.out,<-m.out,Aqj]
    have cB:Ak wr b0 (.slice bb k bc) L:=by rw[<-cA];exact s.out.ord
    have dM:=U cB;clear cA cB;go_wp2;go_ret2;exact⟨_,rfl,dM.out.mono s.out.h2,s.out.ab⟩
 ·have dT:(E !=0)=true:=by simp[a9]
  have bx:Hid (L=[]):=by unfold Hid;rw[<-b'.out];unfold OK;rw[cr.out,V a9]
  clear a9;go_wp2;go_ret2;rw[bx.out];exact RK
end Go.Proofs.YtblcoicaeeiojaaGreatDoor
namespace Go.Proofs.YtblcoicaeeiojaaGreatDoor
def Bu(T:Y)(l:List Int):Int:=if AB T l≠0 then AB T l else if 4096<(AQ T l).length then 7 else 0
def FQ(T:Y)(l:List Int):List Int:=if Bu T l=0 then Bh (Ao T) (AQ T l)else []
def Aek{T:Y}{l:List Int}(h:AB T l≠0):Bu T l=AB T l:=N h
def Ael{T:Y}{l:List Int}(h:AB T l=0)(b:4096<(AQ T l).length):Bu T l=7:=by
 unfold Bu;rw[V O,N b]
def TH{T:Y}{l:List Int}(h:AB T l=0)(b:(AQ T l).length<=4096):Bu T l=0:=by
 unfold Bu;rw[V O,V O]
def Xh{T:Y}{l:List Int}(h:Bu T l=0):AB T l=0/\(AQ T l).length<=4096:=by
 unfold Bu at h;split at h
 ·omega
 ·split at h
  ·omega
  ·omega
def Ly{T:Y}{l:List Int}(h:Bu T l=0):FQ T l=Bh (Ao T) (AQ T l):=N h
def Aem{T:Y}{l:List Int}(h:Bu T l≠0):FQ T l=[]:=V h
def Xi(T:Y)(l:List Int):(FQ T l).length<=4096:=by
 unfold FQ;split
 ·rename_i h;rw[TM];exact(Xh h).2
 ·exact J
def QH{T:Y}{l:List Int}(h:Bu T l=0):Av T=0:=(CN (Xh h).1).1
def ApV{T:Y}{l:List Int}(h:Bu T l=0):l.all AA=true:=(CN (Xh h).1).2.2
def ApS{T:Y}{l:List Int}(h:AB T l=0)(b:(AQ T l).length<=4096):AB T (AQ T l)=0/\OK T (AQ T l)=FQ T l:=by
 obtain⟨c,_,k⟩:=CN h;have e:=P6 c b (AmP (AaU c k));refine⟨e,?_⟩;unfold OK;rw[N e,Ly (TH h b)]
def Xj{T:Y}{l:List Int}(h:Bu T l=0):∀x∈FQ T l,Dg T x:=by
 rw[Ly h];exact Aqv (AaU (QH h) (ApV h))
end Go.Proofs.YtblcoicaeeiojaaGreatDoor
namespace Go.Proofs.YtblcoicaeeiojaaGreatDoor
open Go.RowKit
def AjM(g:Nat)(w:World)(e:Ending)(w':World):Prop:=
 ∃(c:Int) (r:List Int),e=.returned (.int .i64 c)/\AA c=true/\Bd w' g r/\w.grownBy w' (some g)
def Arq:∀j,j<28->AA (DP.getD j 0)=true:=by decide +kernel
def AmN:∀j,j<4->AA ([4352,4449,4520,46].getD j 0)=true:=by decide +kernel
def Ao2:∀q (h:q<12),((#[97,98,109,110,111,114,48,45,120,65,90,49]:Array UInt8)[q]).toNat<=127:=by decide +kernel
def Aro(g:Nat)(r:List Int)(w:World)(b2:Bd w g r):Calls prog 42 #[.pointer (some ⟨g,0,none⟩)] w (AjM g w):=by
 have F:=U b2;have a9:g<w.heap.size:=AwS;clear b2;obtain⟨G,L⟩:=DO r 8 O;have c:AZ r 8=0\/AZ r 8=1\/AZ r 8=2\/AZ r 8=3\/AZ r 8=4\/AZ r 8=5\/AZ r 8=6\/AZ r 8=7:=O;clear G L;rcases c with c|c|c|c|c|c|c|c
 all_goals
  have ac:=U c;clear c;go_enter func42,ntmps42;go_wp2_with fail;refine(XJ _).mono ?_;rintro e w1 ⟨rfl,m,a',s⟩;have A:=U m;have h:=U s;clear m s;go_wp2_with fail;refine(Da g r 8 _ _ (F.out.below h.out) O O ac).mono ?_;rintro e w2 ⟨rfl,C,k⟩;have fG:=U C;have i9:=U (A5 (G4 h.out _) k);have ni:=U (A.out.grown k (by intro b ff e;cases e;omega));clear C k A h;go_wp2_with fail
 ·exact Ai9
 ·exact Ai9
 ·exact Ai9
 ·obtain⟨q,dO⟩:∃q:Int,AZ r.tail 60=q:=⟨_,rfl⟩;obtain⟨ad,am⟩:=DO r.tail 60 O;rw[dO]at ad am;have h8:=U dO;clear dO;have bb:Hid (AA (44032+q)=true):=Awa;refine(Da g r.tail 60 q _ fG.out O O h8).mono ?_;rintro e w3 ⟨rfl,j1,db⟩;have iV:=U j1;have lB:=U (A5 i9.out db);clear j1 db;go_wp2;go_ret;exact⟨_,_,rfl,bb.out,iV.out,lB.out⟩
 ·obtain⟨q,dO⟩:∃q:Nat,AZ r.tail 4=q:=⟨(AZ r.tail 4).toNat,ZQ⟩;have lC:q<4:=ZQ;have h8:=U dO;clear dO;have bb:Hid (AA (([4352,4449,4520,46]:List Int).getD q 0)=true):=AmN q lC;obtain⟨y,b0⟩:∃y,([4352,4449,4520,46]:List Int).getD q 0=y:=⟨_,rfl⟩;rw[b0]at bb;refine(Da g r.tail 4 q _ (fG.out.alloc _) O O h8).mono ?_;rintro e w3 ⟨rfl,j1,db⟩;obtain⟨_,_,eA,jS⟩:=((CQ w2 #[.int .i64 4352,.int .i64 4449,.int .i64 4520,.int .i64 46] [4352,4449,4520,46] _ rfl).grown db AwY) q lC;cases eA;rw[b0,BY]at jS;have iV:=U j1;have lB:=U (A5 (A5 i9.out (GJ _ _ _)) db);clear j1 db b0;exact AzJ
 ·exact Ajb
 ·exact Ajb
 ·exact Ajb
def Alf(v:Value)(xs:List Int)(w:World)(G:Bp w v xs):Calls prog 264 #[v] w (MX xs w):=by
 obtain⟨p,c,rfl,e9,h⟩:=G;have L:=U e9;cases p with
 | none =>
  have ac:xs=[]:=Ay3;subst ac;clear e9;have ad:∀W,(binOp .eql 22 (.slice none 0 c) (.slice none 0 0)).run prog W=.ok (.bool true) W:=λW=>U_ (P:=prog) W 22 3 none 0 c 0 0 underlying22;go_enter func264,ntmps264;go_wp2;go_ret;exact⟨none,0,0,rfl,rfl,O,λk am=>absurd am (FH _),Al _ _⟩
 | some a =>
  have a9:=U (N9 (base:=w.heap.size) (e:=3) (size:=1) w #[] 0 (Ac _) BQ rfl);have m:=U ((Al w.heap.size w).alloc (Ac _) (.cells #[] 3));have a':=U (L.out.below m.out);clear e9;have ad:∀W,(binOp .eql 22 (.slice (some a) xs.length c) (.slice none 0 0)).run prog W=.ok (.bool false) W:=λW=>U_ (P:=prog) W 22 3 (some a) xs.length c 0 0 underlying22;go_enter func264,ntmps264;go_wp2_with (at_builtin;refine De _ _ rfl rfl w.heap.size (.slice (some ⟨w.heap.size,0,none⟩) 0 0) [] (by rfl) (by exact a9.out) (some a) xs.length c xs rfl (by rfl) (by exact a'.out) Ae J ?_;intro bt w1 q s);have A:=m.out.grown s J (λk e=>Aww);obtain⟨ba,bb,rfl,C⟩:=q.ap;have bc:=U C;have be:=U A;have bl:=U h;obtain⟨n,b⟩:∃n,([]++xs).length=n:=⟨_,rfl⟩;rw[b];have bs:=U b;clear q s C A b h;go_wp2;go_ret;have F:=bs.out;have bv:=bl.out;simp at F;exact⟨ba,n,bb,rfl,F,O,bc.out,be.out⟩
def Atu(v:Value)(l:List Mp)(c:Int)(w:World)(bc:DK w v l)(C:AL 0 1114111 (AC l)=true):Calls prog 224 #[v,.int .i64 c] w (MX (As l c) w):=by
 obtain⟨p,F,rfl,G,L⟩:=bc;have s:=U G;have ac:=U C;clear G C;cases h:AP l c with
 | false =>
  have bd:Hid (As l c=[]):=FN h;have m:=U h;clear h;go_enter func224,ntmps224;go_wp2_with fail;refine(Lm _ l c _ ⟨p,F,rfl,s.out,L⟩ ac.out).mono ?_;rintro e w1 ⟨i,rfl,dI,A,b⟩;rw[m.out];have q:=U b;clear b A;go_wp2;go_ret;rw[bd.out];exact⟨none,0,0,rfl,rfl,O,λk be=>absurd be (FH _),q.out⟩
 | true =>
  have m:=U h;clear h;go_enter func224,ntmps224;go_wp2_with fail;refine(Lm _ l c _ ⟨p,F,rfl,s.out,L⟩ ac.out).mono ?_;rintro e w1 ⟨i,rfl,dI,A,b⟩;obtain⟨bl,bs,ad⟩:=A m.out;rw[m.out];obtain⟨g,ff,u,rfl,bt,bv,am⟩:=(s.out.below b) i bl;have bx:=U am;have q:=U b;have b0:=U ad;clear b bt bs am ad;go_wp2_with fail;refine(Alf u _ _ bx.out).mono ?_;rintro e w2 ⟨b1,b2,b3,rfl,a9,a',ba,bb⟩;have b4:=U (q.out.trans (bb.mono q.out.size));have b5:=U ba;have b6:=U a9;have b7:=U a';clear ba bb a9 a' bv;go_wp2;go_ret;rw[b0.out];exact⟨b1,b2,b3,rfl,b6.out,b7.out,b5.out,b4.out⟩
def Ao_(c:Int)(w:World)(h:65<=c/\c<=90):Calls prog 223 #[.int .i64 c] w λe w'=>e=.returned (.int .i64 (c+32))/\w=w':=by
 have k:IntKind.i64.wrap (c-65)=c-65:=AT _ O;have m:IntKind.i64.wrap (c-65+97)=c+32:=H_;have b:c-65+97=c+32:=O;go_enter func223,ntmps223;go_wp2;go_ret;exact⟨by simp[b],rfl⟩
def Auw(x:TV)(T:Y)(c:Int)(xs:List Int)(w:World)(m:Ah w x T)(q:AL 0 1114111 (AC T.map)=true)(s:Hid (FP T c=xs)):Calls prog 152 #[x.agg,.int .i64 c] w (MX xs w):=by
 have ac:=U (Am.new m);have k:=ac.out.at8;have ad:=U q;obtain⟨B,b⟩:∃B,GZ c=B:=⟨_,rfl⟩;have h:=(AgM c (w.alloc (.cells (AG x) 26)));rw[b]at h;have A:=U h;clear m q h;simp only[TV.agg];cases B with
 | true =>
  have am:=Hg.1 b;have eh:Hid (xs=[c+32]):=by unfold Hid;rw[<-s.out,FP,N b]
  clear b;go_enter func152,ntmps152;go_wp2_with fail;refine A.out.mono ?_;rintro e w1 ⟨rfl,rfl⟩;go_wp2_with fail;refine(Ao_ c _ am).mono ?_;rintro e w2 ⟨rfl,rfl⟩;exact AyU
 | false =>
  have eh:Hid (xs=As T.map c):=by unfold Hid;rw[<-s.out,FP,V (by simp[b])]
  clear b;go_enter func152,ntmps152;go_wp2_with fail;refine A.out.mono ?_;rintro e w1 ⟨rfl,rfl⟩;go_wp2_with fail;refine(Atu x.a8 T.map c _ ac.out.tab.map ad.out).mono ?_;rintro e w2 ⟨a9,a',ba,rfl,C,F,G,L⟩;have bb:=U (ac.out.step L);have bc:=U G;have bd:=U C;have be:=U F;clear G L C F k;go_wp2;go_ret;rw[eh.out];exact⟨a9,a',ba,rfl,bd.out,be.out,bc.out,bb.out.ab⟩
theorem BZ.maps{T:Y}(h:BZ T)(c:Int):(FP T c=[]↔AM T c≠3)/\∀y∈FP T c,AM T y=1\/AM T y=4:=by
 have C:∀a:Int,a∉DP->val T.ag a=none:=λa ac=>h.map.sp.none ac
 by_cases q:GZ c=true
 ·have bl:=Hg.1 q
  have ad:c∉DP:=by
   intro k
   have:∀a∈DP,90<a:=by decide +kernel
   have:=this c k
   omega
  have am:c+32∉DP:=by
   intro k
   have:∀a∈DP,122<a:=by decide +kernel
   have:=this _ k
   omega
  have a9:AM T c=3:=by
   unfold AM F4
   rw[C c ad]
   have A:F9 c=false:=by
    cases b:F9 c with
    | false=>rfl
    | true=>have:=NB.1 b;omega
   have G:Cg c=false:=by
    cases b:Cg c with
    | false=>rfl
    | true=>have:=JD.1 b;omega
   simp[A,G,q,show c≠46 by omega]
  have a':AM T (c+32)=1:=by
   unfold AM F4
   rw[C _ am]
   have A:F9 (c+32)=true:=NB.2 (.inl (by omega))
   simp[A]
  unfold FP
  rw[if_pos q,a9]
  refine⟨by simp,λy m=>?_⟩
  rw[List.mem_singleton]at m
  subst m
  exact .inl a'
 ·unfold FP
  rw[if_neg q]
  constructor
  ·constructor
   ·intro ba e
    unfold AM at e
    cases F:val T.ag c with
    | none =>
     rw[F]at e
     unfold F4 at e
     simp only[Option.getD_none]at e
     split at e
     ·omega
     ·first|omega|(rw[if_neg q]at e;omega)
    | some v =>
     rw[F]at e
     simp only[Option.getD_some]at e
     subst e
     obtain⟨s,L,A,G,bb⟩:=Pd F
     obtain⟨bs,_⟩:=h.map.sp.mem s L
     have b:=h.map.back s L bb
     have:s.1=c:=by omega
     rw[this]at b
     have k:=Ll b
     rw[ba]at k
     have:=(h.map.mem _ k).2.2.facts.1
     simp at this
   ·intro e
    apply Classical.byContradiction
    intro bc
    have b:AP T.map c=true:=by
     cases b:AP T.map c with
     | true=>rfl
     | false=>exact absurd (FN b) bc
    have k:=Ll b
    have:=AgP h.map.sp.ay (h.map.mem _ k).1
    simp only at this
    apply e
    unfold AM
    rw[this];rfl
  ·intro y m
   have b:AP T.map c=true:=by
    cases b:AP T.map c with
    | true=>rfl
    | false=>rw[FN b]at m;cases m
   have k:=Ll b
   obtain⟨_,bd,be⟩:=(h.map.mem _ k).2.2.facts.2.2 y m
   left
   unfold AM
   rw[C y be];exact bd
def JI:List Int:=[97,98,109,110,111,114,48,120,121]
def LO:List Int:=[769,803,945,946,1072,1488,1576,1632,7680,7681,7682,19968,44032,8204,2381]
def KI(r:List Int):Int × List Int:=
 if AZ r 2=0 then(JI.getD (AZ r.tail 9).toNat 0,r.tail.tail) else(LO.getD (AZ r.tail 15).toNat 0,r.tail.tail)
def JH:Nat->List Int->List Int
 | 0,_=>[]
 | k+1,r=>(KI r).1::JH k (KI r).2
def JJ(ao:List Int):List Int:=JH (1+(AZ ao 6).toNat) ao.tail
theorem AgW:∀(k:Nat) (r:List Int),(JH k r).length=k
 | 0,_=>rfl
 | k+1,r=>by simp[JH,AgW k]
def Yu(ao:List Int):1<=(JJ ao).length/\(JJ ao).length<=6:=by
 have:=DO ao 6 O;unfold JJ;rw[AgW];omega
def Au6(r:List Int):(KI r).1∈JI\/(KI r).1∈LO:=by
 unfold KI
 split
 ·left
  obtain⟨q,b⟩:∃q:Nat,AZ r.tail 9=q:=⟨(AZ r.tail 9).toNat,by have:=DO r.tail 9 (by omega);omega⟩
  have c:q<9:=by have:=DO r.tail 9 (by omega);omega
  rw[b,Int.toNat_natCast]
  have:∀q,q<9->JI.getD q 0∈JI:=by decide +kernel
  exact this q c
 ·right
  obtain⟨q,b⟩:∃q:Nat,AZ r.tail 15=q:=⟨(AZ r.tail 15).toNat,by have:=DO r.tail 15 (by omega);omega⟩
  have c:q<15:=by have:=DO r.tail 15 (by omega);omega
  rw[b,Int.toNat_natCast]
  have:∀q,q<15->LO.getD q 0∈LO:=by decide +kernel
  exact this q c
theorem AgX:∀(k:Nat) (r:List Int),∀c∈JH k r,c∈JI\/c∈LO
 | 0,_,c,h=>Ds
 | k+1,r,c,h=>by
  rw[JH]at h;rcases AX.1 h with h|h
  ·rw[h];exact Au6 r
  ·exact AgX k _ c h
def Ag2(ao:List Int):∀c∈JJ ao,c∈JI\/c∈LO:=AgX _ _
def Qz(g: Nat)(r: List Int)(n v: Int)(w: World)(b: Bd w g r)(c: 1<=n)(e: n<=1073741824)(h: Hid (AZ r n = v)) :
  Calls prog 30 #[.pointer (some ⟨g,0,none⟩),.int .i64 n] w (Vx g v r.tail w):=h.out▸Aeh g r n w b c e
def AgY:∀c∈JI++LO,AA c=true:=by decide +kernel
def Yv(ao:List Int):(JJ ao).all AA=true:=by
 rw[AR];intro c b;rcases Ag2 ao c b with h|h
 ·exact AgY c (Bg.2 (.inl h))
 ·exact AgY c (Bg.2 (.inr h))
def AjR(g:Nat)(c:Int)(r:List Int)(w:World)(e:Ending)(w':World):Prop:=
 e=.returned (.int .i64 c)/\Bd w' g r/\w.grownBy w' (some g)
def AoJ:∀q (h:q<9),(((ByteArray.mk #[97,98,109,110,111,114,48,120,121])[q]'(h)).toNat:Int)=JI.getD q 0/\0<=JI.getD q 0/\JI.getD q 0<=127:=by decide +kernel
def Adq(g:Nat)(r r':List Int)(c:Int)(w:World)(b2:Bd w g r)(ac:Hid (KI r=(c,r'))):Calls prog 43 #[.pointer (some ⟨g,0,none⟩)] w (AjR g c r' w):=by
 have be:=U b2;have b6:g<w.heap.size:=AwS;clear b2;obtain⟨bv,bx⟩:=DO r 2 O;have h:AZ r 2=0\/AZ r 2=1:=O;clear bv bx;rcases h with h|h
 ·have k:=ac.out;unfold KI at k;rw[N h]at k;injection k with m C;obtain⟨q,s⟩:∃q:Nat,AZ r.tail 9=q:=⟨(AZ r.tail 9).toNat,ZR⟩;have bl:q<9:=ZR;rw[s,Ef]at m;obtain⟨ad,bs,bt⟩:=AoJ q bl;rw[m]at ad bs bt;have am:=U h;have a9:=U s;have a':=U C;obtain⟨y,b0⟩:∃y:Int,(((ByteArray.mk #[97,98,109,110,111,114,48,120,121])[q]'(bl)).toNat:Int)=y:=⟨_,rfl⟩;have ba:Hid (y=c):=by unfold Hid;rw[<-b0,ad]
  have b7:0<=y:=by have:=ba.out;omega
  have b8:y<=127:=by have:=ba.out;omega
  clear ac s m C h ad bs bt;go_enter func43,ntmps43;go_wp2_with fail;refine(Qz g r 2 _ _ be.out O O am).mono ?_;rintro e w2 ⟨rfl,F,G⟩;have bb:=U F;have i9:=U G;clear F G;go_wp2_with fail;refine(Qz g r.tail 9 q _ bb.out O O a9).mono ?_;rintro e w3 ⟨rfl,L,A⟩;have bc:=U L;have bd:=U (A5 i9.out A);clear L A;go_wp2;go_ret;exact⟨by rw[ba.out];rfl,by rw[<-a'.out];exact bc.out,bd.out⟩
 ·have k:=ac.out;unfold KI at k;rw[V O]at k;injection k with m C;obtain⟨q,s⟩:∃q:Nat,AZ r.tail 15=q:=⟨(AZ r.tail 15).toNat,ZP⟩;have b1:q<15:=ZP;rw[s,Ef]at m;have am:=U h;have a9:=U s;have a':=U C;have b3:=U m;clear ac s m C h;go_enter func43,ntmps43;go_wp2_with fail;refine(Qz g r 2 _ _ be.out O O am).mono ?_;rintro e w2 ⟨rfl,F,G⟩;have bb:=U F;have i9:=U G;clear F G;go_wp2_with fail;refine(Qz g r.tail 15 q _ (bb.out.alloc _) O O a9).mono ?_;rintro e w3 ⟨rfl,L,A⟩;obtain⟨_,_,b4,b5⟩:=((CQ w2 #[.int .i64 769,.int .i64 803,.int .i64 945,.int .i64 946,.int .i64 1072,.int .i64 1488,.int .i64 1576,.int .i64 1632,.int .i64 7680,.int .i64 7681,.int .i64 7682,.int .i64 19968,.int .i64 44032,.int .i64 8204,.int .i64 2381] LO _ rfl).grown A AwY) q b1;cases b4;rw[b3.out,BY]at b5;have bc:=U L;have bd:=U (A5 (A5 i9.out (GJ _ _ _)) A);clear L A;go_wp2;go_ret;exact⟨rfl,by rw[<-a'.out];exact bc.out,bd.out⟩
def AjS(xs:List Int)(w:World)(e:Ending)(w':World):Prop:=
 ∃v,e=.returned v/\Ak w' w.heap.size v xs/\Below w.heap.size w w'
def WL(p:Option Addr)(n cap:Nat)(ao xs:List Int)(w:World)(bb:Aq w p ao)(b':Hid (ao.length=n))(ca:n<=17592186043904)(bc:Hid (JJ ao=xs)):Calls prog 17 #[.slice p n cap] w (AjS xs w):=by
 have cb:=U bb;clear bb;obtain rfl:=b'.out;obtain⟨cc,cd⟩:=DO ao 6 O;obtain⟨m,ac⟩:∃m:Nat,AZ ao 6=m:=⟨(AZ ao 6).toNat,O⟩;have cC:m<=5:=O;have ce:=U ac;have cf:Hid (JH (1+m) ao.tail=xs):=by unfold Hid;rw[<-bc.out,JJ,ac];rfl
 clear cc cd ac bc;obtain⟨cg,dI,ci,cj,cl⟩:=Cp info3;go_enter func17,ntmps17;go_wp2_with fail;refine(Wh p cap ao _ cb.out ca).mono ?_;rintro e w1 ⟨g,rfl,dy,bd,be⟩;have cm:=U bd;have bl:=U be;clear bd be;go_wp2_with fail;refine(Qz g ao 6 m _ cm.out O O ce).mono ?_;rintro e w2 ⟨rfl,bs,bt⟩;have bv:Below w.heap.size w w2:=bl.out.grown bt bl.out.size Pu;have bx:=U bs;have ad:=U bv;clear bs bv bt;go_wp2;go_loopw[4,5] (λv u wr=>∃k:Nat,∃h:List Int,∃r:List Int,k<=6/\u=.int .i64 k/\h.length+k<=6/\Hid (h++JH k r=xs)/\Hid (Bd wr g r)/\Hid (Ak wr (g+1) v h)/\Hid (g<wr.heap.size)/\Hid (Below w.heap.size w wr)) (λ_ u _=>(intOf u).toNat)
 case atStart=>exact⟨1+m,[],ao.tail,O,An,Ae,cf,bx,Ak.nil _ _,by obtain⟨_,_,_,_,_,_,_,co,_⟩:=bx.out;exact AN w2 _ co,ad⟩
 case round=>
  obtain⟨k,h,r,cD,rfl,cF,q,cp,s,cq,A⟩:=hrel;by_cases cI:0<k
  ·obtain⟨j,rfl⟩:∃j,k=j+1:=⟨k-1,O⟩;have cO:=cq.out;obtain⟨c,r',am⟩:∃c r',KI r=(c,r'):=⟨_,_,rfl⟩;have cr:=U am;have a9:Hid ((h++[c])++JH j r'=xs):=by
    have b0:=q.out;unfold Hid;rw[JH,am]at b0;rw[<-b0];simp
   clear am q;go_wp2_with fail;refine(Adq g r r' c _ cp.out cr).mono ?_;rintro e w3 ⟨rfl,b1,C⟩;have F:w3.ownsRow (g+1) 3 1 u4 h.length (h.map (.int .i64)):=s.out.kept C (by
    cases cs:Value.ownBlock u4 with
    | none=>simp
    | some b=>have:=(s.out.lt b cs).1;simp;omega)
   have b2:Below w.heap.size w w3:=A.out.grown C A.out.size (by intro j e;cases e;exact dy);have ct:=U b1;have a':=U b2;have c6:=C.size;clear b1 C b2;go_wp2_with (at_builtin;refine ID _ rfl _ _ 22 rfl (g+1) 3 cg (.int .i64 0) 1 8 underlying22 dI ci cj cl rfl Aw _ _ _ rfl (F.alloc _) ⟨_,0,none⟩ 1 1 [.int .i64 c] rfl rfl (IB _ _ _) ?c2 ?c3 ?c4 ?c5 ?_)
   case c2=>intro u b3;simp at b3;subst b3;rfl
   case c3=>unfold maxLen;omega
   case c4=>omega
   case c5=>simp;omega
   intro cu G b4 L _;have b5:=L.size;have b6:Ak G (g+1) cu (h++[c]):=by unfold Ak;simpa using b4
   have b7:Below w.heap.size w G:=(a'.out.alloc a'.out.size _).grown L (by have:=a'.out.size;simp;omega) (λj ba=>by have:=(F.lt j ba).1;omega);have b8:Bd G g r':=(ct.out.alloc _).grown L (λj ba=>by have:=(F.lt j ba).1;omega);have cv:=U b6;have cx:=U b7;have cy:=U b8;have b9:g<G.heap.size:=by simp at b5;omega
   have cA:=U b9;clear b6 b7 b8 b9 b4 L F b5;go_wp2;go_roundw
   case rel=>exact⟨j,h++[c],r',O,An,Ae,a9,cy,cv,cA,cx⟩
   case measure=>simp[intOf]
  ·obtain rfl:k=0:=by omega
   have a9:Hid (h=xs):=by
    have:=q.out;simp[JH]at this;exact this
   have cB:Hid (Ak wr w.heap.size u4 xs):=by rw[<-a9.out];exact Iv s.out O
   have ad:=U A.out;clear q s A;go_wp2;go_ret;exact⟨_,rfl,cB.out,ad.out⟩
end Go.Proofs.YtblcoicaeeiojaaGreatDoor
namespace Go.Proofs.YtblcoicaeeiojaaGreatDoor
def Db(T:Y)(a b:Int):Option Int:=
 if(Fo a b).2=true then some (Fo a b).1 else(T.dec.find? λm=>decide (m.2=[a,b])&&AV T m.1).map (·.1)
def My(T:Y)(c:Int):Bool:=
 decide (A0 c=2)||(decide (A0 c=3)||T.dec.any λm=>decide (m.2.length=2)&&(decide (m.2.getD 1 0=c)&&AV T m.1))
def E4(T:Y)(M:List Int)(c:Int):Prop:=∀m,M.getLast? = some m->Ao T m<Ao T c
instance (T:Y) (M:List Int) (c:Int):Decidable (E4 T M c):=by
 unfold E4
 cases h:M.getLast? with
 | none=>exact isTrue (λm hm=>by cases hm)
 | some m =>
  by_cases hd:Ao T m<Ao T c
  ·exact isTrue (λm' hm=>by injection hm with hm;subst hm;exact hd)
  ·exact isFalse (λhf=>hd (hf m rfl))
def FU(T:Y)(s:Int)(M:List Int)(c:Int):Option Int:=if E4 T M c then Db T s c else none
def CP(T:Y):Int->List Int->List Int->List Int
 | s,M,[]=>s::M
 | s,M,c::r=>match FU T s M c with
  | some p=>CP T p M r
  | none=>if Ao T c=0 then s::M++CP T c [] r else CP T s (M++[c]) r
def El(T:Y):List Int->List Int->List Int
 | M,[]=>M
 | M,c::r=>if Ao T c=0 then M++CP T c [] r else El T (M++[c]) r
def Jq(T:Y)(d:List Int):List Int:=El T [] d
def Np{T:Y}{s c p:Int}{M r:List Int}(h:FU T s M c=some p):CP T s M (c::r)=CP T p M r:=by
 rw[CP,h]
def Mg{T:Y}{s c:Int}{M r:List Int}(h:FU T s M c=none)(b:Ao T c=0):CP T s M (c::r)=s::M++CP T c [] r:=by
 rw[CP,h];simp only;rw[N b]
def Mf{T:Y}{s c:Int}{M r:List Int}(h:FU T s M c=none)(b:Ao T c≠0):CP T s M (c::r)=CP T s (M++[c]) r:=by
 rw[CP,h];simp only;rw[V b]
def Un{T:Y}{s c p:Int}{M:List Int}(h:FU T s M c=some p):E4 T M c/\Db T s c=some p:=by
 unfold FU at h;split at h
 ·exact⟨Pq,h⟩
 ·exact Ds
def Yd{T:Y}{s c:Int}{M:List Int}(h:Db T s c=none):FU T s M c=none:=by
 unfold FU;split
 ·exact h
 ·rfl
def AtZ{T:Y}{s c p:Int}{M:List Int}(b:E4 T M c)(h:Db T s c=some p):FU T s M c=some p:=by
 unfold FU;rw[N b,h]
def AbP{T:Y}(h:Av T=0){c:Int}(e:Bz c=true):Ao T c=0:=by
 have b:=(CO h).2.1;have k:BA T.ai=true:=by
  unfold r2 BF at b;simp only[DQ,AJ]at b;exact b.1.2.1
 unfold Ao;rw[MC k e];rfl
def Ov{T:Y}(h:Av T=0){m:Mp}(c:m∈T.dec):As T.dec m.1=m.2:=by
 obtain⟨k,b,e⟩:=List.mem_iff_getElem.1 c;have q:=(Jw (CO h).2.1).2.2.1;have s:T.dec.getD k Ay=m:=by simp[b,e]
 have:=Ow q k b;rw[s]at this;exact this
def Aco{T:Y}(h:Av T=0){c:Int}(b:As T.dec c≠[]):BK c=[]/\Bz c=false/\AA c=true:=by
 have e:Bz c=false:=by
  cases k:Bz c with
  | false=>rfl
  | true=>exact absurd (Qk h k) b
 have m:¬(Bz c=true):=by rw[e];simp
 rw[GA]at m;have q:=Wu b;have s:=SH (Jw (CO h).2.1).2.2.1 q;refine⟨IP.2 O,e,?_⟩;unfold AA;simp;omega
def SX{T:Y}(h:Av T=0){x:Int}(k:AV T x=true):∃a b,As T.dec x=[a,b]/\Ao T x=0/\Ao T a=0/\Dg T b/\(As T.dec a=[]\/AV T a=true)/\(Ao T b=0\/Ao T (Is T.dec a)<=Ao T b):=by
 have e:(As T.dec x).length=2:=by
  apply JQ;intro s;rw[Mb s]at k;cases k
 obtain⟨a,b,cj⟩:∃a b,As T.dec x=[a,b]:=by
  cases cj:As T.dec x with
  | nil=>rw[cj]at e;cases e
  | cons a r =>
   cases r with
   | nil=>rw[cj]at e;cases e
   | cons b r =>
    cases r with
    | nil=>exact⟨a,b,rfl⟩
    | cons c r=>rw[cj]at e;simp at e
 rw[Qg (Nb h x) cj]at k;simp only[AJ,A4,Ic,N7]at k;obtain⟨_,A,C,F,m,G⟩:=k;have L:b∈As T.dec x:=Hy;have q:=Qj h L;refine⟨a,b,cj,A,C,⟨q.1,FN F,q.2⟩,?_,G⟩;rcases m with m|m
 ·exact .inl (FN m)
 ·exact .inr m
def AbY{T:Y}(h:Av T=0){x:Int}(c:AV T x=true):As T.dec x≠[]:=by
 obtain⟨a,b,cj,_⟩:=SX h c;exact Hy
def TP{T:Y}(h:Av T=0){a b p:Int}(e:Db T a b=some p):(((A0 a=1/\A0 b=2)\/(A0 a=4/\A0 b=3))/\(A0 p=4\/A0 p=5)/\BK p=Ox a++[b])\/(As T.dec p=[a,b]/\AV T p=true):=by
 unfold Db at e;split at e
 ·rename_i s;left;injection e with e;rcases Alu (a:=a) (b:=b) (x:=(Fo a b).1) (o:=(Fo a b).2) rfl with⟨_,c,k,q⟩|⟨_,c,k,q⟩|⟨c,_⟩
  ·rw[e]at q;have:=Alw c k q;exact⟨.inl ⟨c,k⟩,.inl this.1,this.2⟩
  ·rw[e]at q;have:=Alx c k q;exact⟨.inr ⟨c,k⟩,.inr this.1,this.2⟩
  ·rw[c]at s;cases s
 ·right;rw[Aax]at e;obtain⟨m,A,rfl⟩:=e;have c:=List.find?_some A;have k:=Aaq A;simp only[AJ,A4]at c;exact⟨by rw[Ov h k,c.1],c.2⟩
def Tt{c:Int}(h:A0 c=4\/A0 c=5):44032<=c/\c<=55203:=by
 rcases h with h|h
 ·rw[Nz]at h;omega
 ·rw[Ts]at h;omega
def Xy{T:Y}(h:Av T=0){a b p:Int}(A:Db T a b=some p)(C:Dg T b):Br T p=Br T a++[b]/\Ao T p=0/\AA p=true/\(As T.dec p=[]\/AV T p=true):=by
 rcases TP h A with⟨F,G,m⟩|⟨L,e⟩
 ·have ba:=Tt G;have q:Bz p=true:=GA.2 O;refine⟨?_,AbP h q,by unfold AA;simp;omega,.inl (Qk h q)⟩;have ac:Br T p=BK p:=by
   unfold Br;rw[V (by rw[m];simp)]
  rw[ac,m];congr 1;unfold Ox Br;by_cases c:BK a=[]
  ·rw[N c,N c];have ad:Bz a=true:=by
    rcases F with⟨k,_⟩|⟨k,_⟩
    ·rw[Ny]at k;exact GA.2 O
    ·have:=Tt (.inl k);exact GA.2 O
   rw[Qs (Qk h ad)]
  ·rw[V c,V c]
 ·have s:=AbY h e;obtain⟨am,_,a9⟩:=Aco h s;obtain⟨a2,bb,bc,a',_⟩:=SX h e;refine⟨?_,a',a9,.inr e⟩;rw[Ti h am s,L];rw[Gp,Gp,C.exp];simp[AQ]
def Aq_{T:Y}(h:Av T=0){a b p:Int}(m:Db T a b=some p):My T b=true:=by
 unfold My;rcases TP h m with⟨q,_⟩|⟨cj,s⟩
 ·rcases q with⟨_,e⟩|⟨_,e⟩<;>simp[e]
 ·have k:=IR (l:=T.dec) (c:=p) Hy;rw[cj]at k;simp only[Ic,JS];right;right;exact⟨_,k,by simp[s]⟩
def AeJ{T:Y}(h:Av T=0){a b:Int}(c:My T b=false):Db T a b=none:=by
 cases e:Db T a b with
 | none=>rfl
 | some p=>rw[Aq_ h e]at c;cases c
def Am6{c:Int}(h:D9 c=false):A0 c=0:=by
 unfold D9 at h;simp only[Py]at h;have b:¬(Cg c=true):=by rw[h.2.1];simp
 have e:¬(ED c=true):=by rw[h.2.2];simp
 rw[JD]at b;rw[Lq]at e;exact Nx O O O O
def VZ{T:Y}(h:Av T=0){c x:Int}(k:x∈As T.dec c):D9 x=false:=by
 have e:=(CO h).2.2.2.2;have m:=IR (NF k);unfold r6 at e;simp only[AJ,AR]at e;have b:=e.1 _ m;unfold EH at b;simp only[AJ,AR]at b;simpa using b.2 x k
def Ak9{T:Y}(h:Av T=0):r8 T=true:=by
 unfold Av at h;split at h
 ·omega
 split at h
 ·omega
 split at h
 ·omega
 split at h
 ·omega
 split at h
 ·omega
 split at h
 ·omega
 split at h
 ·omega
 split at h
 ·omega
 rename_i b;simpa using b
def AeI{T:Y}(h:Av T=0){x a b:Int}(L:AV T x=true)(cj:As T.dec x=[a,b]):Db T a b=some x:=by
 have ac:A0 a=0:=Am6 (VZ h (c:=x) Hy);have a9:(Fo a b).2=false:=by
  rw[M_ (by rw[ac];omega) (by rw[ac];omega)]
 unfold Db;rw[V (by rw[a9];simp)];have C:=IR (l:=T.dec) (c:=x) Hy;rw[cj]at C;cases F:T.dec.find? λm=>decide (m.2=[a,b])&&AV T m.1 with
 | none =>
  have:=List.find?_eq_none.1 F _ C;simp[L]at this
 | some m =>
  have s:=List.find?_some F;have a':=Aaq F;simp only[AJ,A4]at s;have G:=Ak9 h;unfold r8 Ck at G;rw[A4,List.Nodup,Aau]at G;have e:m=(x,[a,b]):=by
   apply JQ;intro ba;have bb:m∈T.dec.filter λm=>AV T m.1:=JW.2 ⟨a',s.2⟩;have bc:(x,[a,b])∈T.dec.filter λm=>AV T m.1:=JW.2 ⟨C,L⟩;have bd:∀(l:List Mp),l.Pairwise (λu v=>u.2≠v.2)->m∈l->(x,[a,b])∈l->False:=by
    intro l A ad am
    induction l with
    | nil=>cases ad
    | cons u r be =>
     rw[Aas]at A;rcases AX.1 ad with q|q
     ·rcases AX.1 am with k|k
      ·exact ba (q.trans k.symm)
      ·exact A.1 _ k (by rw[<-q];exact s.1)
     ·rcases AX.1 am with k|k
      ·exact A.1 _ q (by rw[<-k];exact s.1.symm)
      ·exact be A.2 q k
   exact bd _ G bb bc
  exact KM
def Aqw(k:Int->Int)(X M:List Int)(c:Int)(h:∀m∈M,0<k m/\k m<k c):Bh k (X++c::M)=Bh k (X++M++[c]):=by
 induction M generalizing X with
 | nil=>simp
 | cons m r e =>
  have b:=h m J;rw[Xp k X r b.1 b.2];have:=e (X++[m]) (λy b0=>h y Hz);exact GG
def Ww(k:Int->Int)(a b:List Int)(h:BR k (a++b)):BR k a:=by
 induction a with
 | nil=>trivial
 | cons x r c =>
  cases r with
  | nil=>trivial
  | cons y s=>exact⟨h.1,c h.2⟩
structure Mk (T:Y) (E M:List Int):Prop where
 fin:∀m∈M,Dg T m
 pos:∀m∈M,0<Ao T m
 top:∀m∈M,∀e,E.getLast? = some e->Ao T m<=Ao T e
 ay:M.Pairwise λa b=>Ao T a<=Ao T b
theorem Mk.nil(T:Y)(E:List Int):Mk T E []:=⟨J,J,J,List.Pairwise.nil⟩
theorem Mk.below{T:Y}{E M:List Int}(h:Mk T E M){c:Int}(q:E4 T M c):∀m∈M,Ao T m<Ao T c:=by
 intro m b;obtain⟨l,e⟩:∃l,M.getLast? = some l:=by
  cases k:M.getLast? with
  | none=>rw[List.getLast?_eq_none_iff]at k;rw[k]at b;cases b
  | some l=>exact⟨l,rfl⟩
 have s:=q l e;have A:Ao T m<=Ao T l:=by
  obtain⟨N,rfl⟩:∃N,M=N++[l]:=by
   rw[List.getLast?_eq_some_iff]at e;exact e
  rcases Bg.1 b with b|b
  ·exact(Vl.1 h.ay).2.2 m b l J
  ·simp at b;subst b;exact N_ _
 omega
theorem Mk.comp{T:Y}{E M:List Int}(h:Mk T E M){c:Int}(k:E4 T M c):Mk T (E++[c]) M:=
 ⟨h.fin,h.pos,λm q e b=>by simp at b;subst b;exact Int.le_of_lt (h.below k m q),h.ay⟩
theorem Mk.snoc{T:Y}{E M:List Int}(h:Mk T E M){c:Int}(q:E≠[])(F:Dg T c)(G:0<Ao T c)(cq:BR (Ao T) (E++[c])):Mk T (E++[c]) (M++[c]):=by
 obtain⟨N,e,rfl⟩:∃N e,E=N++[e]:=⟨E.dropLast,E.getLast q,(List.dropLast_concat_getLast q).symm⟩;have ac:Ao T e<=Ao T c:=by
  have:BR (Ao T) (N++[e,c]):=MF;have:=((Wx (Ao T) N c e).1 this).2;omega
 have s:∀m∈M,Ao T m<=Ao T c:=λm k=>by have:=h.top m k e J;omega
 refine⟨?_,?_,?_,?_⟩
 ·intro m k;rcases Bg.1 k with k|k
  ·exact h.fin m k
  ·simp at k;subst k;exact F
 ·intro m k;rcases Bg.1 k with k|k
  ·exact h.pos m k
  ·simp at k;subst k;exact G
 ·intro m k ad A;simp at A;subst A;rcases Bg.1 k with k|k
  ·exact s m k
  ·simp at k;subst k;exact N_ _
 ·rw[Vl];exact⟨h.ay,Aav _ _,λa L b C=>by simp at C;subst C;exact s a L⟩
def Ac3{T:Y}{E M:List Int}(s:Int)(m:Ao T s=0)(h:Mk T E M):BR (Ao T) (s::M):=by
 have e:∀(M:List Int),(M.Pairwise λa b=>Ao T a<=Ao T b)->BR (Ao T) M:=by
  intro M c
  induction M with
  | nil=>trivial
  | cons a r k =>
   rw[Aas]at c;cases r with
   | nil=>trivial
   | cons b q=>exact⟨by have:=c.1 b J;omega,k c.2⟩
 cases c:M with
 | nil=>trivial
 | cons a r =>
  refine⟨O,?_⟩;have:=e M h.ay;rwa[c]at this
def Ac2(k:Int->Int)(a b:List Int)(c:BR k a)(e:BR k b)(h:∀x,b.head? = some x->k x=0):BR k (a++b):=by
 induction a with
 | nil=>exact e
 | cons x r m =>
  cases r with
  | nil =>
   cases b with
   | nil=>trivial
   | cons y s =>
    have:=h y rfl;exact⟨O,e⟩
  | cons y s=>exact⟨c.1,m c.2⟩
def Aaz(T:Y)(x:Int):Prop:=AA x=true/\(As T.dec x=[]\/AV T x=true)
structure SB (T:Y) (D out:List Int):Prop where
 bW:Bh (Ao T) (AQ T out)=D
 ord:BR (Ao T) out
 bR:∀x∈out,Aaz T x
 len:out.length<=D.length
def AcV(T:Y)(s:Int)(M r:List Int)(h:Av T=0)(k:Ao T s=0)(m:∀c∈r,Dg T c):∀x,(CP T s M r).head? = some x->Ao T x=0:=by
 induction r generalizing s M with
 | nil=>intro x b;simp[CP]at b;subst b;exact k
 | cons c r q =>
  have F:=m c J;have A:∀c∈r,Dg T c:=λy b0=>m y Hz;cases e:FU T s M c with
  | some p =>
   rw[Np e];exact q p M (Xy h (Un e).2 F).2.1 A
  | none =>
   by_cases C:Ao T c=0
   ·rw[Mg e C];intro x b;simp at b;subst b;exact k
   ·rw[Mf e C];exact q s (M++[c]) k A
def Anp{T:Y}(h:Av T=0)(r:List Int)(s:Int)(M E:List Int)(F:Ao T s=0)(bc:Aaz T s)(bl:E≠[])(G:Bh (Ao T) (Br T s++M)=E)(dn:Mk T E M)(cq:BR (Ao T) (E++r))(ad:∀c∈r,Dg T c)(b5:1+M.length<=E.length):SB T (E++r) (CP T s M r):=by
 induction r generalizing s M E with
 | nil =>
  refine⟨?_,Ac3 s F dn,?_,by simp[CP];omega⟩
  ·rw[CP,Gp,P7 dn.fin,E8];exact G
  ·intro x b3;rw[CP]at b3;exact AvY
 | cons c r L =>
  have cB:=ad c J;have e:∀c∈r,Dg T c:=λy b0=>ad y Hz;have am:BR (Ao T) (E++[c]):=Ww _ (E++[c]) r MF;have a9:BR (Ao T) ((E++[c])++r):=MF;have a':E++[c]≠[]:=J;have ba:E++c::r=(E++[c])++r:=J;have bb:Bh (Ao T) (Br T s++M++[c])=E++[c]:=by
   rw[<-AeC,G,LA _ _ am]
  cases k:FU T s M c with
  | some p =>
   obtain⟨bd,bs⟩:=Un k;obtain⟨bt,bv,bx,b1⟩:=Xy h bs cB;rw[Np k,ba];refine L p M (E++[c]) bv ⟨bx,b1⟩ a' ?_ (dn.comp bd) a9 e Ae;rw[bt];have:=Aqw (Ao T) (Br T s) M c (λm be=>⟨dn.pos m be,dn.below bd m be⟩);rw[<-bb,<-this];exact J
  | none =>
   by_cases A:Ao T c=0
   ·rw[Mg k A];have C:=L c [] [c] A ⟨cB.1,.inl cB.2.1⟩ J Axh (Mk.nil T _) (by
     have:∀(a b:List Int),BR (Ao T) (a++b)->BR (Ao T) b:=by
      intro a b ac
      induction a with
      | nil=>exact ac
      | cons x q b2 =>
       cases q with
       | nil =>
        cases b with
        | nil=>trivial
        | cons y z=>exact ac.2
       | cons y z=>exact b2 ac.2
     exact this E (c::r) cq) e J
    refine⟨?_,?_,?_,?_⟩
    ·rw[M7,Gp,P7 dn.fin,<-AeD,G,C.bW];exact LA _ _ MF
    ·exact Ac2 _ _ _ (Ac3 s F dn) C.ord (AcV T c [] r h A e)
    ·intro x b3;rcases Bg.1 b3 with b3|b3
     ·exact AvY
     ·exact C.bR x b3
    ·have:=C.len;simp at this|-;omega
   ·have b4:0<Ao T c:=by have:=AbO h c;omega
    rw[Mf k A,ba];refine L s (M++[c]) (E++[c]) F bc a' ?_ (dn.snoc bl cB b4 am) a9 e Ae;rw[<-LV];exact bb
def AnW(k:Int->Int)(a b:List Int)(h:BR k (a++b)):BR k b:=by
 induction a with
 | nil=>exact h
 | cons x q c =>
  cases q with
  | nil =>
   cases b with
   | nil=>trivial
   | cons y z=>exact h.2
  | cons y z=>exact c h.2
def Anm{T:Y}(h:Av T=0)(r M:List Int)(k:∀m∈M,Dg T m)(cq:BR (Ao T) (M++r))(C:∀c∈r,Dg T c):SB T (M++r) (El T M r):=by
 induction r generalizing M with
 | nil =>
  rw[E8]at cq;refine⟨?_,cq,?_,by simp[El]⟩
  ·rw[El,P7 k,E8];exact LA _ _ cq
  ·intro x b;rw[El]at b;have:=k x b;exact⟨this.1,.inl this.2.1⟩
 | cons c r F =>
  have cB:=C c J;have A:∀c∈r,Dg T c:=λy b0=>C y Hz;rw[El];by_cases q:Ao T c=0
  ·rw[N q];have s:=Anp h r c [] [c] q ⟨cB.1,.inl cB.2.1⟩ J Axh (Mk.nil T _) (by simpa using AnW _ M (c::r) cq) A J;refine⟨?_,?_,?_,?_⟩
   ·rw[M7,P7 k,<-AeD,s.bW,LA _ M (Ww _ M (c::r) cq)];exact LA _ _ MF
   ·exact Ac2 _ _ _ (Ww _ M (c::r) cq) s.ord (AcV T c [] r h q A)
   ·intro x b;rcases Bg.1 b with b|b
    ·have:=k x b;exact⟨this.1,.inl this.2.1⟩
    ·exact s.bR x b
   ·have:=s.len;simp at this|-;omega
  ·rw[V q];have:=F (M++[c]) (λm e=>by
    rcases Bg.1 e with e|e
    ·exact k m e
    ·simp at e;subst e;exact cB) MF A
   exact GG
def ApO{T:Y}(h:Av T=0)(d:List Int)(cq:BR (Ao T) d)(b:∀c∈d,Dg T c):SB T d (Jq T d):=by
 have:=Anm h d [] J MF b;simpa[Jq] using this
def Dz(T:Y)(c:Int):List Int:=if AM T c=3 then FP T c else if AM T c=1\/AM T c=4 then [c]else []
def AF(T:Y)(l:List Int):List Int:=l.flatMap (Dz T)
def ER(T:Y):Nat->List Int->Option Nat
 | _,[]=>none
 | k,c::r=>if AM T c=0 then some k else ER T (k+1) r
def Bl(T:Y)(l:List Int):List Int × Nat × Int:=
 if AB T l≠0 then([],0,AB T l)else match ER T 0 l with
  | some i=>([],i,16)
  | none=>if 4096<(AF T l).length then([],0,7) else(AF T l,0,0)
def Agp(T:Y)(l:List Int):Bool:=decide ((Bl T l).2.2=0)&&((Bl T l).1==l)
theorem Qb{T:Y}:∀(k:Nat) (l:List Int),ER T k l=none↔∀c∈l,AM T c≠0
 | _,[]=>by simp[ER]
 | k,c::r=>by
  rw[ER];by_cases h:AM T c=0
  ·rw[N h];simp[h]
  ·rw[V h,Qb (k+1) r];simp[h]
def AdW(T:Y)(a b:List Int):AF T (a++b)=AF T a++AF T b:=by unfold AF;rw[Aam]
def AdU{T:Y}(h:Av T=0){c:Int}(m:AA c=true):(Dz T c).length<=18/\∀y∈Dz T c,AA y=true:=by
 have e:=(CO h).2.2.2.1;unfold Dz;split
 ·unfold FP;split
  ·rename_i q;have:=Hg.1 q;refine⟨J,λy b=>?_⟩;rw[Ch]at b;subst b;unfold AA;simp;omega
  ·by_cases k:As T.map c=[]
   ·rw[k];exact⟨J,λy b=>by cases b⟩
   ·have s:=IR k;unfold r4 at e;simp only[AJ]at e;have:=AR.1 e.2.1 _ s;unfold GB at this;simp only[AJ,A4]at this;exact⟨this.1.2,λy b=>AR.1 this.2 y b⟩
 ·split
  ·refine⟨J,λy b=>?_⟩;rw[Ch]at b;subst b;exact m
  ·exact⟨J,λy b=>by cases b⟩
theorem QF{T:Y}(h:Av T=0):∀(l:List Int),l.all AA=true->(AF T l).length<=18*l.length/\(AF T l).all AA=true
 | [],_=>by simp[AF]
 | c::r,b=>by
  simp only[DQ,AJ]at b;obtain⟨q,k⟩:=AdU h b.1;obtain⟨s,m⟩:=QF h r b.2;have e:AF T (c::r)=Dz T c++AF T r:=Y3;rw[e];refine⟨Ail,?_⟩;rw[IE,m,AR.2 k];rfl
def Apl{T:Y}(h:BZ T){l:List Int}:∀y∈AF T l,AM T y=1\/AM T y=4:=by
 intro y b;unfold AF at b;rw[Vj]at b;obtain⟨c,_,b⟩:=b;unfold Dz at b;split at b
 ·exact(h.maps c).2 y b
 ·split at b
  ·rename_i e;rw[Ch]at b;subst b;exact e
  ·cases b
theorem AdZ{T:Y}:∀ {l:List Int},(∀y∈l,AM T y=1\/AM T y=4)->AF T l=l
 | [],_=>rfl
 | c::r,h=>by
  have e:AF T (c::r)=Dz T c++AF T r:=Y3;have b:=h c J;rw[e,AdZ (λy b0=>h y Hz)];unfold Dz;rw[V O,N b];rfl
def TC{T:Y}{l:List Int}(h:(Bl T l).2.2=0):AB T l=0/\ER T 0 l=none/\(AF T l).length<=4096/\Bl T l=(AF T l,0,0):=by
 unfold Bl at h|-;split at h
 ·rename_i b;exact absurd h b
 ·rename_i b;have e:AB T l=0:=O;rw[V O];cases c:ER T 0 l with
  | some i=>rw[c]at h;simp at h
  | none =>
   rw[c]at h;simp only at h|-;split at h
   ·exact E5
   ·rename_i k;rw[V k];exact⟨e,Dr,O,Dr⟩
def Ad3{T:Y}{l:List Int}(c:AB T l=0)(b:ER T 0 l=none)(e:(AF T l).length<=4096):Bl T l=(AF T l,0,0):=by
 unfold Bl;rw[V O,b];simp only;rw[V O]
def Aps{T:Y}(h:BZ T){l:List Int}(s:(Bl T l).2.2=0):Bl T (Bl T l).1=((Bl T l).1,0,0)/\Agp T (Bl T l).1=true:=by
 obtain⟨A,ac,b,C⟩:=TC s;rw[C];simp only;obtain⟨k,ad,F⟩:=CN A;obtain⟨am,G⟩:=QF k l F;have m:=Apl h (l:=l);have q:=AdZ m;have e:Bl T (AF T l)=(AF T l,0,0):=by
  have:=Ad3 (T:=T) (l:=AF T l) (P6 k b G) ((Qb 0 _).2 (λc L=>by have:=m c L;omega)) (by rw[q];exact b);rwa[q]at this
 refine⟨e,?_⟩;unfold Agp;rw[e];simp
end Go.Proofs.YtblcoicaeeiojaaGreatDoor
