/- joiner: contracts of the -/
import Derived.Test.YtblcoicaeeiojaaGreatDoorSOaPmMapR
set_option linter.all false
set_option maxHeartbeats 4000000
set_option maxRecDepth 100000
open Go.Proofs.Tryz
namespace Go.Proofs.YtblcoicaeeiojaaGreatDoor
open Go.RowKit
abbrev Abp(g:Nat)(x:TV)(b o:Nat)(c:Int)(w:World):Prop:=J_ g x w/\w.cell? ⟨b,o,none⟩=some (.int .i64 c)
def Aoy(l:List Int)(k:Nat)(h:k<l.length):l.drop k=l.getD k 0::l.drop (k+1):=by rw[EP h];simp[h]
def Asm(x:TV)(T:Y)(p:Option Addr)(cap:Nat)(ao:List Int)(i R:Int)(w:World)(b5:Ah w x T)(cf:Du x)(b6:Aq w p ao)(b7:ao.length<=17592186043904)(c8:Hid (QC T ao i=R)):Calls prog 187 #[x.agg,.slice p ao.length cap,.int .i64 i] w (Ar (.int .i64 R) w):=by
 obtain⟨A,co⟩:∃A,Hid (AB T ao=A):=⟨_,rfl⟩;have ac:=U (Am.new b5);have b8:=U b6;have L:=λW (C:Ah W x T) F=>Jx x T p cap ao A W C cf F b7 co;obtain⟨n,b9⟩:∃n,ao.length=n:=⟨_,rfl⟩;rw[b9]at b7 L|-;have bb:=U b9;have cg:=U L;clear b5 b6 L;have cp:=bb.out;simp only[TV.agg];go_enter func187,ntmps187;by_cases C:i<0
 ·have ci:decide (i<0)=true:=At C;obtain rfl:R = -1:=AiP;exact Df
 ·have ci:decide (i<0)=false:=Ai C;by_cases F:(n:Int)<=i
  ·have cj:decide ((n:Int)<=i)=true:=At F;obtain rfl:R = -1:=AiP;exact Df
  ·have cj:decide ((n:Int)<=i)=false:=Ai F;obtain⟨m,rfl⟩:∃m:Nat,i=m:=⟨i.toNat,O⟩;have er:m<n:=O;obtain⟨⟨ad,am,a9,a',ba,bd⟩,⟨be,bs,bt,bv,bx,b0⟩⟩:=ac.out.box.load;go_wp2_with fail;refine(cg.out _ ac.out.tab (b8.out.below ac.out.ab)).mono ?_;rintro e w1 ⟨rfl,b'⟩;replace ac:=U (ac.out.step b');clear b' ad am a9 a' ba bd be bs bt bv bx b0;by_cases bl:A=0
   ·subst bl;have ia:Hid (EE (Ed T ao m)=R):=by unfold Hid;rw[<-AdD NY co.out];exact c8.out
    clear c8;go_wp2;go_loopw[7,8] (λo b1 wr=>∃k:Nat,k<=m/\b1=.int .i64 k/\o=.int .i64 (EE (Ed T ao k))/\Hid (Am w x T wr)) (λ_ b1 _=>m-(intOf b1).toNat)
    case atStart=>exact⟨0,Au _,rfl,rfl,ac⟩
    case round=>
     obtain⟨k,cq,rfl,rfl,bc⟩:=hrel;by_cases cr:k<m
     ·have ca:k<ao.length:=by rw[bb.out];omega
      obtain⟨b,ff,rfl,G⟩:=(b8.out.below bc.out.ab) k ca;obtain⟨c,b2⟩:∃c,ao.getD k 0=c:=⟨_,rfl⟩;rw[b2]at G;obtain⟨z,cb⟩:∃z,Hid (D_ T c=z):=⟨_,rfl⟩;have cc:Hid (Ed T ao (k+1)=if z=5 then Ed T ao k else some k):=by
       unfold Hid;rw[Ed,b2];unfold Hv;rw[cb.out];by_cases h:z=5<;>simp[h]
      have lx:Hid (∀b3,Below wr.heap.size wr b3->b3.cell? ⟨b,ff+k,none⟩=some (.int .i64 c)):=λb3 cl=>(cl.cell (p:=⟨b,ff+k,none⟩) (AN wr _ G)).trans G;have cs:(0:Int)<=(k:Int):=O;have ct:(k:Int)<(n:Int):=O;have cd:=bc.out.step (Bx wr);have s:=U cd;clear cd b2 ca;go_upto_region 7 with(fail);obtain⟨⟨ad,am,a9,a',ba,bd⟩,⟨be,bs,bt,bv,bx,b0⟩⟩:=bc.out.box.load;go_region_held3 (Abp w.heap.size x b (ff+k) c)
       (first
        | exact⟨s.out.box.flat,Z1⟩
        | exact⟨(s.out.step eS).box.flat,Z1⟩)
       (first
        | (go_at_call 189;(with_reducible refine(T6 x T c z _ s.out.tab cb).mono ?_);rintro e w3 ⟨rfl,eS⟩)
        | fail)
      all_goals
       have ce:=U (s.out.step eS);clear eS s G ad am a9 a' ba bd be bs bt bv bx b0;by_cases q:z=5
       ·have cm:(z !=5)=false:=by simp[q]
        have b4:Hid (Ed T ao (k+1)=Ed T ao k):=by unfold Hid;rw[cc.out,N q]
        clear q;go_wp2;go_roundw
        case rel=>exact⟨k+1,O,An,by rw[b4.out],ce⟩
        case measure=>simp[intOf];omega
       ·have cm:(z !=5)=true:=by simp[q]
        have b4:Hid (Ed T ao (k+1)=some k):=by unfold Hid;rw[cc.out,V q]
        clear q;go_wp2;go_roundw
        case rel=>exact⟨k+1,O,An,by rw[b4.out];rfl,ce⟩
        case measure=>simp[intOf];omega
     ·obtain rfl:k=m:=by omega
      exact Awy
   ·have cu:(A !=0)=true:=by simp[bl]
    obtain rfl:R = -1:=AiP;exact U3
def Asp(x:TV)(T:Y)(p:Option Addr)(cap:Nat)(ao:List Int)(i R:Int)(w:World)(b7:Ah w x T)(cg:Du x)(b8:Aq w p ao)(b9:ao.length<=17592186043904)(c8:Hid (QU T ao i=R)):Calls prog 188 #[x.agg,.slice p ao.length cap,.int .i64 i] w (Ar (.int .i64 R) w):=by
 obtain⟨A,co⟩:∃A,Hid (AB T ao=A):=⟨_,rfl⟩;have ac:=U (Am.new b7);have b':=U b8;have L:=λW (C:Ah W x T) F=>Jx x T p cap ao A W C cg F b9 co;obtain⟨n,ca⟩:∃n,ao.length=n:=⟨_,rfl⟩;rw[ca]at b9 L|-;have bb:=U ca;have ci:=U L;clear b7 b8 L;have cs:=bb.out;simp only[TV.agg];go_enter func188,ntmps188;by_cases C:i<0
 ·have cj:decide (i<0)=true:=At C;obtain rfl:R = -1:=AiQ;exact Df
 ·have cj:decide (i<0)=false:=Ai C;by_cases F:(n:Int)<=i
  ·have cl:decide ((n:Int)<=i)=true:=At F;obtain rfl:R = -1:=AiQ;exact Df
  ·have cl:decide ((n:Int)<=i)=false:=Ai F;obtain⟨m,rfl⟩:∃m:Nat,i=m:=⟨i.toNat,O⟩;have er:m<n:=O;obtain⟨⟨ad,am,a9,a',ba,bd⟩,⟨be,bs,bt,bv,bx,b0⟩⟩:=ac.out.box.load;go_wp2_with fail;refine(ci.out _ ac.out.tab (b'.out.below ac.out.ab)).mono ?_;rintro e w1 ⟨rfl,cb⟩;replace ac:=U (ac.out.step cb);clear cb ad am a9 a' ba bd be bs bt bv bx b0;by_cases bl:A=0
   ·subst bl;have ia:Hid (EE (FT T (m+1) (ao.drop (m+1)))=R):=by unfold Hid;have:=AfM (T:=T) (l:=ao) (k:=m) NY co.out;rw[c8.out]at this;exact this.symm
    have ct:IntKind.i64.wrap ((n:Int)-1)=(n:Int)-1:=AT _ O;clear c8;go_wp2;go_loopw[7,8] (λo b1 wr=>∃j:Nat,m+1<=j/\j<=n/\b1=.int .i64 ((j:Int)-1)/\o=.int .i64 (EE (FT T j (ao.drop j)))/\Hid (Am w x T wr)) (λ_ b1 _=>(intOf b1+1).toNat)
    case atStart=>exact⟨n,O,Ac _,rfl,by rw[Vc ME];rfl,ac⟩
    case round=>
     obtain⟨j,cu,cv,rfl,rfl,bc⟩:=hrel;by_cases cx:m+1<j
     ·obtain⟨k,rfl⟩:∃k,j=k+1:=⟨j-1,O⟩;have b2:(((k+1:Nat):Int)-1)=(k:Int):=O;rw[b2];have b3:k<ao.length:=FD;obtain⟨b,ff,rfl,G⟩:=(b'.out.below bc.out.ab) k b3;obtain⟨c,b4⟩:∃c,ao.getD k 0=c:=⟨_,rfl⟩;rw[b4]at G;obtain⟨z,cc⟩:∃z,Hid (D_ T c=z):=⟨_,rfl⟩;have cd:Hid (FT T k (ao.drop k)=if z=5 then FT T (k+1) (ao.drop (k+1))else some k):=by
       unfold Hid;rw[Aoy ao k b3,FT,b4];unfold Hv;rw[cc.out];by_cases h:z=5<;>simp[h]
      have lx:Hid (∀b5,Below wr.heap.size wr b5->b5.cell? ⟨b,ff+k,none⟩=some (.int .i64 c)):=λb5 cm=>(cm.cell (p:=⟨b,ff+k,none⟩) (AN wr _ G)).trans G;have cy:(0:Int)<=(k:Int):=O;have cA:(k:Int)<(n:Int):=O;have cp:m<k:=O;have cq:decide ((m:Int)<(k:Int))=true:=At O;have cB:IntKind.i64.wrap ((k:Int)-1)=(k:Int)-1:=AT _ O;have ce:=bc.out.step (Bx wr);have s:=U ce;clear ce b4 b3;go_upto_region 7 with(fail);obtain⟨⟨ad,am,a9,a',ba,bd⟩,⟨be,bs,bt,bv,bx,b0⟩⟩:=bc.out.box.load;go_region_held3 (Abp w.heap.size x b (ff+k) c)
       (first
        | exact⟨s.out.box.flat,Z1⟩
        | exact⟨(s.out.step eS).box.flat,Z1⟩)
       (first
        | (go_at_call 189;(with_reducible refine(T6 x T c z _ s.out.tab cc).mono ?_);rintro e w3 ⟨rfl,eS⟩)
        | fail)
      all_goals
       have cf:=U (s.out.step eS);clear eS s G ad am a9 a' ba bd be bs bt bv bx b0;by_cases q:z=5
       ·have cr:(z !=5)=false:=by simp[q]
        have b6:Hid (FT T k (ao.drop k)=FT T (k+1) (ao.drop (k+1))):=by unfold Hid;rw[cd.out,N q]
        clear q;go_wp2;go_roundw
        case rel=>exact⟨k,O,O,rfl,by rw[b6.out],cf⟩
        case measure=>first|(simp[intOf];done)|(simp[intOf];omega)
       ·have cr:(z !=5)=true:=by simp[q]
        have b6:Hid (FT T k (ao.drop k)=some k):=by unfold Hid;rw[cd.out,V q]
        clear q;go_wp2;go_roundw
        case rel=>exact⟨k,O,O,rfl,by rw[b6.out];rfl,cf⟩
        case measure=>first|(simp[intOf];done)|(simp[intOf];omega)
     ·obtain rfl:j=m+1:=by omega
      have b2:(((m+1:Nat):Int)-1)=(m:Int):=O;rw[b2];have cp:¬m<m:=O;have cq:decide ((m:Int)<(m:Int))=false:=Ai O;exact Awy
   ·have cC:(A !=0)=true:=by simp[bl]
    obtain rfl:R = -1:=AiQ;exact U3
def Aso(x:TV)(T:Y)(p:Option Addr)(cap:Nat)(ao:List Int)(i:Int)(R:Bool)(w:World)(cC:Ah w x T)(cc:Du x)(cD:Aq w p ao)(ca:ao.length<=17592186043904)(c8:Hid (QM T ao i=R)):Calls prog 137 #[x.agg,.slice p ao.length cap,.int .i64 i] w (Ar (.bool R) w):=by
 obtain⟨A,co⟩:∃A,Hid (AB T ao=A):=⟨_,rfl⟩;have ac:=U (Am.new cC);have dG:=U cD;have cd:=λW (s:Ah W x T) q=>Jx x T p cap ao A W s cc q ca co;have ce:=λk R W (s:Ah W x T) q c8=>Asm x T p cap ao k R W s cc q ca c8;have cf:=λk R W (s:Ah W x T) q c8=>Asp x T p cap ao k R W s cc q ca c8;obtain⟨n,cF⟩:∃n,ao.length=n:=⟨_,rfl⟩;rw[cF]at ca cd ce cf|-;have bb:=U cF;have dH:=U cd;have dJ:=U ce;have dK:=U cf;clear cC cD cd ce cf;have d2:=bb.out;simp only[TV.agg];go_enter func137,ntmps137;by_cases s:i<0
 ·have dL:decide (i<0)=true:=At s;obtain rfl:R=false:=AiN;exact Df
 ·have dL:decide (i<0)=false:=Ai s;by_cases q:(n:Int)<=i
  ·have dM:decide ((n:Int)<=i)=true:=At q;obtain rfl:R=false:=AiN;exact Df
  ·have dM:decide ((n:Int)<=i)=false:=Ai q;obtain⟨m,rfl⟩:∃m:Nat,i=m:=⟨i.toNat,O⟩;have er:m<n:=O;obtain⟨⟨F,G,L,ad,am,a9⟩,⟨a',ba,bc,be,bx,b0⟩⟩:=ac.out.box.load;go_wp2_with fail;refine(dH.out _ ac.out.tab (dG.out.below ac.out.ab)).mono ?_;rintro e w1 ⟨rfl,cI⟩;replace ac:=U (ac.out.step cI);clear cI F G L ad am a9 a' ba bc be bx b0;by_cases bl:A=0
   ·subst bl;have dN:Hid (F' T ao m=R):=by unfold Hid;rw[<-AeS NY co.out];exact c8.out
    have b8:m<ao.length:=NY;have dO:=U (AdD b8 co.out);have dP:=U (AfM b8 co.out);obtain⟨b,ff,rfl,cg⟩:=(dG.out.below ac.out.ab) m b8;obtain⟨c,cb⟩:∃c,ao.getD m 0=c:=⟨_,rfl⟩;rw[cb]at cg;obtain⟨Z,ci⟩:∃Z,IK T ao m=Z:=⟨_,rfl⟩;have cO:Hid (R=if c≠8204/\c≠8205 then true else Z||(decide (c=8204)&&Fl T ao m)):=by unfold Hid;rw[<-dN.out];unfold F';rw[cb,ci]
    obtain⟨V,c2⟩:∃V:Bool,(decide (c≠8204/\c≠8205)||Z)=V:=⟨_,rfl⟩;have bv:=U c2;have dx:=U ci;have d3:(0:Int)<=(m:Int):=O;have d4:(m:Int)<(n:Int):=O;have dQ:=U cb;clear c8 cb ci c2;go_upto_region 3 with(fail);obtain⟨⟨F,G,L,ad,am,a9⟩,⟨a',ba,bc,be,bx,b0⟩⟩:=ac.out.box.load;go_cut[50] (λv dR=>v=.bool V/\Hid (Am w x T dR))
    case first=>
     have d5:=λp=>Aj cg p;have c3:=λp=>Aj F p;have c4:=λp=>Aj G p;have c5:=λp=>Aj L p;have c6:=λp=>Aj ad p;have c7:=λp=>Aj am p;have c9:=λp=>Aj a9 p;have c':=λp=>Aj a' p;have da:=λp=>Aj ba p;have db:=λp=>Aj bc p;have dc:=λp=>Aj be p;have df:=λp=>Aj bx p;have dj:=λp=>Aj b0 p;clear F G L ad am a9 a' ba bc be bx b0;by_cases b6:c=8204
     ·subst b6;exact AAQ
     ·by_cases b3:c=8205
      ·subst b3;exact AAQ
      ·have hX:V=true:=by rw[<-bv.out];simp[b6,b3]
       subst hX;have d6:(c !=8204)=true:=by simp[b6]
       have d7:(c !=8205)=true:=by simp[b3]
       clear b6 b3;exact AAt
    case rest=>
     obtain⟨rfl,b1⟩:=hcut;generalize wc=dk at b1|-;cases V with
     | true =>
      have dS:R=true:=by
       have s:=cO.out;have q:=bv.out;by_cases h:c≠8204/\c≠8205
       ·rw[N h]at s;exact s
       ·rw[V h]at s;rw[Ai h,FE]at q;rw[s,q];rfl
      go_wp2;go_ret;exact⟨by rw[dS];rfl,b1.out.ab⟩
     | false =>
      have dT:¬(c≠8204/\c≠8205)/\Z=false:=by
       have q:=bv.out;simp only[Py,L3]at q;exact q
      obtain⟨cj,rfl⟩:=dT;have jl:Hid (R=(decide (c=8204)&&Fl T ao m)):=by unfold Hid;rw[cO.out,V cj,FE]
      obtain⟨a,dm⟩:∃a,Hid (QC T ao m=a):=⟨_,rfl⟩;obtain⟨d,dn⟩:∃a,Hid (QU T ao m=a):=⟨_,rfl⟩;obtain⟨d8,d9,ct,dU⟩:=(dG.out.below b1.out.ab) m b8;injection ct with ct;injection ct with ct dV _;subst ct;subst dV;have cl:=λp=>Dm (p:=p) λiQ hZ=>dJ.out m a iQ (b1.out.tab.below hZ) ((dG.out.below b1.out.ab).below hZ) dm;have cm:=λp=>Dm (p:=p) λiQ hZ=>dK.out m d iQ (b1.out.tab.below hZ) ((dG.out.below b1.out.ab).below hZ) dn;simp only[TV.agg]at cl cm;have dW:=U cl;have dX:=U cm;clear cl cm dU cg;go_upto_region 5 with(fail);obtain⟨⟨F,G,L,ad,am,a9⟩,⟨a',ba,bc,be,bx,b0⟩⟩:=b1.out.box.load;have c3:=λp=>Aj F p;have c4:=λp=>Aj G p;have c5:=λp=>Aj L p;have c6:=λp=>Aj ad p;have c7:=λp=>Aj am p;have c9:=λp=>Aj a9 p;have c':=λp=>Aj a' p;have da:=λp=>Aj ba p;have db:=λp=>Aj bc p;have dc:=λp=>Aj be p;have df:=λp=>Aj bx p;have dj:=λp=>Aj b0 p;clear F G L ad am a9 a' ba bc be bx b0;refine DG Ax Ax ?_
      repeat (go_big_quiet_step (first|(go_at_call 187;with_reducible exact dW.out _)|(go_at_call 188;with_reducible exact dX.out _)))
      refine wpQuiet_nil ?_;intro _ e7;obtain⟨pq,e6⟩:=e7;subst e6;have dF:=U (b1.out.step (Dx dk pq));generalize Cf dk pq=dq at dF|-;obtain⟨d_,d',C,dY⟩:=(dG.out.below dF.out.ab) m b8;injection C with C;injection C with C cp _;subst C;subst cp;rw[dQ.out]at dY;have b9:a=EE (Ed T ao m):=by rw[<-dm.out];exact dO.out
      have b7:d=EE (Kw T ao m):=by rw[<-dn.out];exact dP.out
      by_cases b3:c=8205
      ·subst b3;obtain rfl:R=false:=by rw[jl.out];rfl
       clear b9 b7;exact ZO
      ·have b6:c=8204:=JQ λh=>cj ⟨h,b3⟩;subst b6;have cq:Hid (R=Fl T ao m):=AwL;clear b3 cj;cases bt:Ed T ao m with
       | none =>
        rw[bt]at b9;obtain rfl:a = -1:=b9;obtain rfl:R=false:=by rw[cq.out];unfold Fl;rw[bt]
        clear b7;exact ZO
       | some b2 =>
        rw[bt]at b9;obtain rfl:a=(b2:Int):=b9;have ea:decide ((b2:Int)<0)=false:=Ai O;have dZ:=((WS T ao m b2).1 bt).1;cases bd:Kw T ao m with
        | none =>
         rw[bd]at b7;obtain rfl:d = -1:=b7;obtain rfl:R=false:=by rw[cq.out];unfold Fl;rw[bt,bd]
         exact ZO
        | some hQ =>
         rw[bd]at b7;obtain rfl:d=(hQ:Int):=b7;have eb:decide ((hQ:Int)<0)=false:=Ai O;have ds:=((AfK T ao m hQ).1 bd).2.1;obtain⟨b4,cr⟩:∃z,Hid (D_ T (ao.getD b2 0)=z):=⟨_,rfl⟩;obtain⟨kR,cs⟩:∃z,Hid (D_ T (ao.getD hQ 0)=z):=⟨_,rfl⟩;have bs:Hid (R=((decide (b4=1)||decide (b4=3))&&(decide (kR=2)||decide (kR=3)))):=by
          unfold Hid;rw[cq.out];unfold Fl;rw[bt,bd];simp only;unfold Tq WD;rw[cr.out,cs.out]
         have a0:(0:Int)<=(b2:Int):=O;have a1:(b2:Int)<(n:Int):=O;have ec:(0:Int)<=(hQ:Int):=O;have ed:(hQ:Int)<(n:Int):=Aig;obtain⟨ee,ef,C,cu⟩:=(dG.out.below dF.out.ab) b2 O;injection C with C;injection C with C cp _;subst C;subst cp;obtain⟨eg,eh,b',cv⟩:=(dG.out.below dF.out.ab) hQ ds;injection b' with b';injection b' with b' d0 _;subst b';subst d0;have ln:=λp=>Aj cu p;have d1:=λp=>Aj cv p;have cx:=λp=>Dm (p:=p) λiQ hZ=>T6 x T (ao.getD b2 0) b4 iQ (dF.out.tab.below hZ) cr;have cy:=λp=>Dm (p:=p) λiQ hZ=>T6 x T (ao.getD hQ 0) kR iQ (dF.out.tab.below hZ) cs;simp only[TV.agg]at cx cy;have dy:=U cx;have dE:=U cy;clear cx cy dZ ds bt bd;generalize ao.getD b2 0=ei at ln dy cu cr;generalize ao.getD hQ 0=ej at d1 dE cv cs;go_upto_region 8 with(fail);clear cu cv;obtain⟨⟨F,G,L,ad,am,a9⟩,⟨a',ba,bc,be,bx,b0⟩⟩:=dF.out.box.load;have c3:=λp=>Aj F p;have c4:=λp=>Aj G p;have c5:=λp=>Aj L p;have c6:=λp=>Aj ad p;have c7:=λp=>Aj am p;have c9:=λp=>Aj a9 p;have c':=λp=>Aj a' p;have da:=λp=>Aj ba p;have db:=λp=>Aj bc p;have dc:=λp=>Aj be p;have df:=λp=>Aj bx p;have dj:=λp=>Aj b0 p;clear F G L ad am a9 a' ba bc be bx b0;refine DG Ax Ax ?_
         repeat (go_big_quiet_step (first|(go_at_call 189;with_reducible exact dy.out _)|(go_at_call 189;with_reducible exact dE.out _)))
         refine wpQuiet_nil ?_;intro _ e7;obtain⟨pq,e6⟩:=e7;subst e6;have iR:=U (dF.out.step (Dx dq pq));generalize Cf dq pq=ek at iR|-;by_cases cA:b4=1
         ·subst cA;exact AxV
         ·have el:(b4==1)=false:=by simp[cA]
          by_cases cB:b4=3
          ·subst cB;exact AxV
          ·have em:(b4==3)=false:=by simp[cB]
           obtain rfl:R=false:=by rw[bs.out];simp[cA,cB]
           exact Ax5
   ·have ev:(A !=0)=true:=by simp[bl]
    obtain rfl:R=false:=AiN;exact U3
theorem Abf{T:Y}{l:List Int}:∀(d m k:Nat),m<=k->k<m+d->(∀j,m<=j->j<k->F' T l j=true)->F' T l k=false->IL T l d m=some k
 | 0,m,k,c,h,_,_=>O
 | d+1,m,k,c,h,dy,b=>by
  rw[IL];by_cases e:m=k
  ·rw[e,N b]
  ·rw[V AiY,Abf d (m+1) k O O (λj s q=>dy j O q) b]
def Asl(x:TV)(T:Y)(p:Option Addr)(cap:Nat)(ao:List Int)(K E:Int)(w:World)(b1:Ah w x T)(b:Du x)(b2:Aq w p ao)(c:ao.length<=17592186043904)(c8:Hid (Lj T ao=(K,E))):Calls prog 97 #[x.agg,.slice p ao.length cap] w (Ar (.tuple #[.int .i64 K,.int .i64 E]) w):=by
 obtain⟨A,co⟩:∃A,Hid (AB T ao=A):=⟨_,rfl⟩;have ac:=U (Am.new b1);have b3:=U b2;have m:=λW (q:Ah W x T) s=>Jx x T p cap ao A W q b s c co;have C:=λ(k:Nat) R W (q:Ah W x T) s c8=>Aso x T p cap ao k R W q b s c c8;obtain⟨n,F⟩:∃n,ao.length=n:=⟨_,rfl⟩;rw[F]at c m C|-;have bb:=U F;have b7:=U m;have b8:=U C;clear b1 b2 F b m C;simp only[TV.agg];go_enter func97,ntmps97;obtain⟨⟨G,L,ad,am,a9,a'⟩,⟨ba,be,bs,bv,bx,b0⟩⟩:=ac.out.box.load;go_wp2_with fail;refine(b7.out _ ac.out.tab (b3.out.below ac.out.ab)).mono ?_;rintro e w1 ⟨rfl,b4⟩;replace ac:=U (ac.out.step b4);clear b4 G L ad am a9 a' ba be bs bv bx b0;by_cases bl:A=0
 ·subst bl;go_wp2;go_loopw[16] (λi wr=>∃k:Nat,k<=n/\i=.int .i64 k/\Hid (∀j,j<k->F' T ao j=true)/\Hid (Am w x T wr)) (λi _=>n-(intOf i).toNat)
  case atStart=>exact⟨0,Au _,rfl,λj b9=>O,ac⟩
  case round=>
   obtain⟨k,cc,rfl,cA,bc⟩:=hrel;by_cases b':k<n
   ·have ca:k<ao.length:=by rw[bb.out];exact b'
    obtain⟨B,b5⟩:∃B,Hid (QM T ao k=B):=⟨_,rfl⟩;have ej:=b5.out;rw[AeS ca co.out]at ej;obtain⟨⟨G,L,ad,am,a9,a'⟩,⟨ba,be,bs,bv,bx,b0⟩⟩:=bc.out.box.load;go_wp2_with fail;refine(b8.out k B _ bc.out.tab (b3.out.below bc.out.ab) b5).mono ?_;rintro e w2 ⟨rfl,b6⟩;replace bc:=U (bc.out.step b6);clear b6 G L ad am a9 a' ba be bs bv bx b0;cases B with
    | true =>
     have cb:Hid (∀j,j<k+1->F' T ao j=true):=λj b9=>ZI;clear ej;go_wp2;go_roundw
     case rel=>exact⟨k+1,O,An,cb,bc⟩
     case measure=>simp[intOf];omega
    | false =>
     have ka:IL T ao ao.length 0=some k:=Abf ao.length 0 k O O (λj _ h=>cA.out j h) ej;exact AAz
   ·exact Az7
 ·exact AAJ
end Go.Proofs.YtblcoicaeeiojaaGreatDoor
