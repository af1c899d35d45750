/- bidi: contracts of the r -/
import Derived.Test.YtblcoicaeeiojaaGreatDoorSOdPmIdnA
import Derived.Deep.CutBlock
set_option linter.all false
set_option maxHeartbeats 8000000
set_option maxRecDepth 100000
open Go.Proofs.Tryz
namespace Go.Proofs.YtblcoicaeeiojaaGreatDoor
open Go.RowKit
def Afh{T:Y}(h:r2 T=true):BA T.ak=true:=by
 simp only[r2,BF,DQ,Gf,AJ]at h;exact h.1.2.2.2.1
def AlE(b:List Int)(j:Nat)(z:Int)(h:j<b.length):(b.take (j+1)).contains z=((b.take j).contains z||(z==b.getD j 0)):=by
 rw[E9 h,Gd];simp[h,-List.take_append_getElem]
def AlF{b:List Int}{j:Nat}{z:Int}(h:j<b.length)(e:z=b.getD j 0):b.contains z=true:=by
 rw[e];simp[h]
def Aj6(q:Int->Bool)(l:List Int)(k:Nat)(h:k<l.length):(l.take (k+1)).any q=((l.take k).any q||q (l.getD k 0)):=by
 rw[E9 h,MP];simp[h]
def Aj7{q:Int->Bool}{l:List Int}{k:Nat}(h:k<l.length)(b:q (l.getD k 0)=true):l.any q=true:=JS.2 ⟨l.getD k 0,JM,b⟩
def AoP(T:Y)(b:Int)(l:List Int)(k:Nat)(h:k<l.length):DV T b (l.take (k+1))=if B_ T (l.getD k 0)=10 then DV T b (l.take k)else B_ T (l.getD k 0):=by
 rw[E9 h,WN];simp[DV,h]
def OW(x:TV)(T:Y)(p:Option Addr)(n cap:Nat)(ao:List Int)(q:Option Addr)(m b5:Nat)(s:List Int)(B:Bool)(w:World)(bd:Ah w x T)(be:BA T.ak=true)(bl:Aq w p ao)(bb:Hid (ao.length=n))(cx:n<=17592186043904)(bs:Aq w q s)(ei:Hid (s.length=m))(cy:m<=100)(bt:Hid (EC T ao s=B)):Calls prog 63 #[x.agg,.slice p n cap,.slice q m b5] w (Ar (.bool B) w):=by
 have b6:=U (Am.new bd);have b7:=U bl;have b8:=U bs;have b9:=U be;obtain⟨Q,am⟩:∃Q:Int->Bool,(λc=>s.contains (B_ T c))=Q:=⟨_,rfl⟩;have bv:Hid (∀c,Q c=s.contains (B_ T c)):=λc=>by rw[<-am]
 have bx:Hid (ao.any Q=B):=by unfold Hid;rw[<-bt.out,<-am];rfl
 clear bd bl bs be am bt;simp only[TV.agg];go_enter func63,ntmps63;go_wp2;go_loopw[13] (λi wr=>∃k:Nat,k<=n/\i=.int .i64 k/\Hid ((ao.take k).any Q=false)/\Hid (Am w x T wr)) (λi _=>n-(intOf i).toNat)
 case atStart=>exact⟨0,Au _,rfl,rfl,b6⟩
 case round=>
  obtain⟨k,cA,rfl,a9,bc⟩:=hrel;by_cases b':k<n
  ·have F:k<ao.length:=by rw[bb.out];exact b'
   obtain⟨b,ff,rfl,ca⟩:=(b7.out.below bc.out.ab) k F;obtain⟨c,G⟩:∃c,ao.getD k 0=c:=⟨_,rfl⟩;rw[G]at ca;obtain⟨z,a'⟩:∃z,Hid (B_ T c=z):=⟨_,rfl⟩;have cb:Hid (s.contains z=false->(ao.take (k+1)).any Q=false):=λh=>by rw[Aj6 Q ao k F,a9.out,G,bv.out c,a'.out,h];rfl
   have cc:Hid (s.contains z=true->B=true):=λh=>by rw[<-bx.out];exact Aj7 F (by rw[G,bv.out c,a'.out];exact h)
   clear G F a9;go_wp2;go_loopw[19] (λi cd=>∃j:Nat,j<=m/\i=.int .i64 j/\Hid ((s.take j).contains z=false)/\Hid (Am w x T cd)) (λi _=>m-(intOf i).toNat)
   case atStart=>exact⟨0,Au _,rfl,DH,bc⟩
   case round=>
    obtain⟨j,cB,rfl,L,A⟩:=hrel;by_cases ce:j<m
    ·have ac:j<s.length:=by rw[ei.out];exact ce
     obtain⟨cC,cD,rfl,b0⟩:=(b8.out.below A.out.ab) j ac;obtain⟨d,ad⟩:∃c,s.getD j 0=c:=⟨_,rfl⟩;rw[ad]at b0;have ba:=U (AlE s j z ac);have b1:Hid (z=d->s.contains z=true):=λh=>AlF ac (by rw[ad];exact h);rw[ad,L.out,FE]at ba;clear ad ac L;obtain⟨⟨cf,cg,ci,cj,cl,cm⟩,⟨co,cp,cq,cr,cs,ct⟩⟩:=A.out.box.load;go_wp2_with fail;refine(XU x T c z _ A.out.tab b9.out a').mono ?_;rintro e w2 ⟨rfl,b2⟩;replace A:=U (A.out.step b2);clear b2 b0;clear cf cg ci cj cl cm co cp cq cr cs ct;by_cases C:z=d
     ·have b3:(z==d)=true:=by simp[C]
      obtain rfl:B=true:=cc.out (b1.out C);clear C;go_wp2;go_ret;exact⟨rfl,A.out.ab⟩
     ·have b3:(z==d)=false:=by simp[C]
      have cu:Hid ((s.take (j+1)).contains z=false):=by unfold Hid;rw[ba.out,b3]
      clear C b1 ba;go_wp2;go_roundw
      case rel=>exact⟨j+1,O,An,cu,A⟩
      case measure=>first|(simp[intOf];done)|(simp[intOf];omega)
    ·have b4:s.contains z=false:=by have h:=L.out;rwa[AO Aih]at h
     have cv:=U (cb.out b4);clear b4 L;go_wp2;go_roundw
     case rel=>exact⟨k+1,O,An,cv,A⟩
     case measure=>first|(simp[intOf];done)|(simp[intOf];omega)
  ·obtain rfl:k=n:=by omega
   obtain rfl:B=false:=by rw[<-bx.out,<-a9.out,AO ME]
   exact RM
def Ast(x:TV)(T:Y)(p:Option Addr)(n cap:Nat)(ao:List Int)(Z:Int)(w:World)(q:Ah w x T)(s:BA T.ak=true)(A:Aq w p ao)(bb:Hid (ao.length=n))(b6:n<=17592186043904)(ad:Hid (DV T (-1) ao=Z)):Calls prog 139 #[x.agg,.slice p n cap] w (Ar (.int .i64 Z) w):=by
 have am:=U (Am.new q);have a9:=U A;have a':=U s;clear q A s;simp only[TV.agg];go_enter func139,ntmps139;go_wp2;go_loopw[5,11] (λv i wr=>∃k:Nat,k<=n/\i=.int .i64 k/\v=.int .i64 (DV T (-1) (ao.take k))/\Hid (Am w x T wr)) (λ_ i _=>n-(intOf i).toNat)
 case atStart=>exact⟨0,Au _,rfl,rfl,am⟩
 case round=>
  obtain⟨k,b7,rfl,rfl,bc⟩:=hrel;by_cases ba:k<n
  ·have h:k<ao.length:=by rw[bb.out];exact ba
   obtain⟨b,ff,rfl,C⟩:=(a9.out.below bc.out.ab) k h;obtain⟨c,m⟩:∃c,ao.getD k 0=c:=⟨_,rfl⟩;rw[m]at C;obtain⟨z,F⟩:∃z,Hid (B_ T c=z):=⟨_,rfl⟩;have f2:=U (AoP T (-1) ao k h);rw[m,F.out]at f2;obtain⟨y,G⟩:∃y,DV T (-1) (ao.take k)=y:=⟨_,rfl⟩;rw[G]at f2|-;clear m h G;obtain⟨⟨bd,be,bl,bs,bt,bv⟩,⟨bx,b0,b1,b2,b3,b4⟩⟩:=bc.out.box.load;go_wp2_with fail;refine(XU x T c z _ bc.out.tab a'.out F).mono ?_;rintro e w2 ⟨rfl,L⟩;replace bc:=U (bc.out.step L);clear L C;clear bd be bl bs bt bv bx b0 b1 b2 b3 b4;by_cases fN:z=10
   ·have b5:(z !=10)=false:=by simp[fN]
    have fG:Hid (DV T (-1) (ao.take (k+1))=y):=by unfold Hid;rw[f2.out,N fN]
    exact Ayv
   ·have b5:(z !=10)=true:=by simp[fN]
    have fG:Hid (DV T (-1) (ao.take (k+1))=z):=by unfold Hid;rw[f2.out,V fN]
    exact Ayv
  ·obtain rfl:k=n:=by omega
   have ac:DV T (-1) (ao.take k)=Z:=by rw[AO ME];exact ad.out
   rw[ac];clear ac;exact RM
def AfZ(x:TV)(T:Y)(p:Option Addr)(cap:Nat)(ao:List Int)(B:Bool)(w:World)(bl:Ah w x T)(bs:Du x)(bt:Aq w p ao)(q:ao.length<=17592186043904)(b:Hid (Kz T ao=B)):Calls prog 28 #[x.agg,.slice p ao.length cap] w (Ar (.bool B) w):=by
 obtain⟨A,c⟩:∃A,Hid (AB T ao=A):=⟨_,rfl⟩;have ac:=U (Am.new bl);have bv:=U bt;have s:=λW (b2:Ah W x T) b3=>Jx x T p cap ao A W b2 bs b3 q c;obtain⟨n,C⟩:∃n,ao.length=n:=⟨_,rfl⟩;rw[C]at q s|-;have b4:=U C;have b5:=U s;clear bl bt C bs s;simp only[TV.agg];go_enter func28,ntmps28;obtain⟨⟨F,G,L,ad,am,a9⟩,⟨a',ba,bb,bc,bd,be⟩⟩:=ac.out.box.load;go_wp2_with fail;refine(b5.out _ ac.out.tab (bv.out.below ac.out.ab)).mono ?_;rintro e w1 ⟨rfl,bx⟩;replace ac:=U (ac.out.step bx);clear bx;clear F G L ad am a9 a' ba bb bc bd be;by_cases k:A=0
 ·subst k;have b6:Hid (BA T.ak=true):=Afh (CO (CN c.out).1).2.1;have b7:Hid (EC T ao [1,2,3]=B):=by unfold Hid;rw[<-b.out];unfold Kz;rw[At c.out,BG];rfl
  clear b;have b0:=U (CQ w1 #[.int .i64 1,.int .i64 2,.int .i64 3] [1,2,3] 3 rfl);have m:=U (ac.out.step ((Al w1.heap.size w1).alloc (Ac _) (.cells #[.int .i64 1,.int .i64 2,.int .i64 3] 3)));obtain⟨⟨F,G,L,ad,am,a9⟩,⟨a',ba,bb,bc,bd,be⟩⟩:=ac.out.box.load;go_wp2_with fail;refine(OW x T _ n cap ao _ 3 3 [1,2,3] B _ m.out.tab b6.out (bv.out.below m.out.ab) b4 q b0.out rfl O b7).mono ?_;rintro e b8 ⟨rfl,b1⟩;replace ac:=U (m.out.step b1);clear b1 b0 m;clear F G L ad am a9 a' ba bb bc bd be;exact Df
 ·have b9:(A==0)=false:=by simp[k]
  obtain rfl:B=false:=by rw[<-b.out];unfold Kz;rw[Ai (λh=>k (c.out.symm.trans h))];rfl
  clear k b;exact Df
def AsZ(x:TV)(T:Y)(p:Option Addr)(cap:Nat)(ao:List Int)(K E:Int)(w:World)(b5:Ah w x T)(ce:Du x)(cj:Aq w p ao)(cl:ao.length<=17592186043904)(ba:Hid (Ra T ao=(K,E))):Calls prog 99 #[x.agg,.slice p ao.length cap] w (Ar (.tuple #[.int .i64 K,.int .i64 E]) w):=by
 obtain⟨A,co⟩:∃A,Hid (AB T ao=A):=⟨_,rfl⟩;have ac:=U (Am.new b5);have dG:=U cj;have bc:=λW (a':Ah W x T) be=>Jx x T p cap ao A W a' ce be cl co;obtain⟨n,bs⟩:∃n,ao.length=n:=⟨_,rfl⟩;rw[bs]at cl bc|-;have bb:=U bs;have ct:=U bc;clear b5 cj bs ce bc;simp only[TV.agg];go_enter func99,ntmps99;obtain⟨⟨cf,b8,b',b9,cd,b6⟩,⟨ci,cb,b7,ca,cc,cg⟩⟩:=ac.out.box.load;go_wp2_with fail;refine(ct.out _ ac.out.tab (dG.out.below ac.out.ab)).mono ?_;rintro e w1 ⟨rfl,cm⟩;replace ac:=U (ac.out.step cm);clear cm;clear cf b8 b' b9 cd b6 ci cb b7 ca cc cg;by_cases bl:A=0
 ·subst bl;have j0:Hid (BA T.ak=true):=Afh (CO (CN co.out).1).2.1;have eG:=ba.out;unfold Ra at eG;rw[V YD]at eG;injection eG with bt bd;subst bd;by_cases bx:n=0
  ·have s:ao=[]:=Bw (by rw[bb.out];exact bx);have cu:K=0:=by rw[<-bt];unfold Dd;rw[N s]
   subst cu;subst bx;clear bt s;exact I6
  ·have db:((n:Int)==0)=false:=by simp;omega
   have cp:ao≠[]:=λh=>bx Ah6;obtain⟨f,b0⟩:∃f,Hid (B_ T (ao.getD 0 0)=f):=⟨_,rfl⟩;obtain⟨z,s⟩:∃z,Hid (DV T (-1) ao=z):=⟨_,rfl⟩;have eb:Hid (Mw T ao f z=K):=by unfold Hid;rw[<-bt,<-b0.out,<-s.out];unfold Dd;rw[V cp]
   have cq:0<ao.length:=FD;clear bt cp ba;obtain⟨⟨cf,b8,b',b9,cd,b6⟩,⟨ci,cb,b7,ca,cc,cg⟩⟩:=ac.out.box.load;go_wp2_with fail;refine(Ast x T _ n cap ao z _ ac.out.tab j0.out (dG.out.below ac.out.ab) bb cl s).mono ?_;rintro e w2 ⟨rfl,ad⟩;replace ac:=U (ac.out.step ad);clear ad;clear cf b8 b' b9 cd b6 ci cb b7 ca cc cg;go_upto_region 5 with(fail);obtain⟨b,ff,rfl,b1⟩:=(dG.out.below ac.out.ab) 0 cq;obtain⟨c,b2⟩:∃c,ao.getD 0 0=c:=⟨_,rfl⟩;rw[b2,E_]at b1;rw[b2]at b0;have dc:(0:Int)<(n:Int):=O;have df:0<n:=O;have cv:=λp=>Aj b1 p;have b3:=λp=>Dm (p:=p) λm cx=>XU x T c f m (ac.out.tab.below cx) j0.out b0;simp only[TV.agg]at b3;have cr:=U b3;clear b3 b2 b1 cq;obtain⟨⟨cf,b8,b',b9,cd,b6⟩,⟨ci,cb,b7,ca,cc,cg⟩⟩:=ac.out.box.load;have cy:=λp=>Aj cf p;have cA:=λp=>Aj b8 p;have cB:=λp=>Aj b' p;have cC:=λp=>Aj b9 p;have cF:=λp=>Aj cd p;have cI:=λp=>Aj b6 p;have cO:=λp=>Aj ci p;have c2:=λp=>Aj cb p;have c3:=λp=>Aj b7 p;have c4:=λp=>Aj ca p;have c5:=λp=>Aj cc p;have c6:=λp=>Aj cg p;clear cf b8 b' b9 cd b6 ci cb b7 ca cc cg;refine DG Ax Ax ?_
   repeat (go_big_quiet_step ((go_at_call 100;with_reducible exact cr.out _)))
   refine wpQuiet_nil ?_;intro _ c7;obtain⟨pq,c8⟩:=c7;subst c8;replace ac:=U (ac.out.step (Dx w2 pq));generalize Cf w2 pq=m at ac|-;clear cy cA cB cC cF cI cO c2 c3 c4 c5 c6 cv cr;by_cases F:f=1
   ·subst F;replace eb:=eb.out;unfold Mw at eb;rw[N Aw]at eb;replace eb:=U eb;obtain⟨q,jZ⟩:∃B,Hid (EC T ao [0,11]=B):=⟨_,rfl⟩;have iU:=U (CQ m #[.int .i64 0,.int .i64 11] [0,11] 3 rfl);have fU:=U (ac.out.step ((Al m.heap.size m).alloc (Ac _) (.cells #[.int .i64 0,.int .i64 11] 3)));obtain⟨⟨cf,b8,b',b9,cd,b6⟩,⟨ci,cb,b7,ca,cc,cg⟩⟩:=ac.out.box.load;go_wp2_with fail;refine(OW x T _ n cap ao _ 2 2 [0,11] q _ fU.out.tab j0.out (dG.out.below fU.out.ab) bb cl iU.out rfl O jZ).mono ?_;rintro e kv ⟨rfl,ad⟩;replace ac:=U (fU.out.step ad);clear ad iU fU;clear cf b8 b' b9 cd b6 ci cb b7 ca cc cg;cases q with
    | true =>
     obtain rfl:K=2:=Ah3;exact I6
    | false =>
     replace eb:=eb.out;rw[V Aim]at eb;replace eb:=U eb;obtain⟨k,C⟩:∃k:Bool,decide (z≠1/\z≠2/\z≠4/\z≠3)=k:=⟨_,rfl⟩;have bv:=U C;clear C;go_upto_region 10 with(fail);go_cut[35] (λv b4=>v=.bool k/\b4=kv)
     case first=>
      by_cases a':z=1
      ·subst a';obtain rfl:k=false:=AA1;go_wp2_with fail;go_meet;exact C5
      ·have c9:(z !=1)=true:=by simp[a']
       by_cases be:z=2
       ·subst be;obtain rfl:k=false:=AA1;go_wp2_with fail;go_meet;exact C5
       ·have c':(z !=2)=true:=by simp[be]
        by_cases eL:z=4
        ·subst eL;obtain rfl:k=false:=AA1;go_wp2_with fail;go_meet;exact C5
        ·have cs:(z !=4)=true:=by simp[eL]
         by_cases cD:z=3
         ·subst cD;obtain rfl:k=false:=AA1;go_wp2_with fail;go_meet;exact C5
         ·have da:(z !=3)=true:=by simp[cD]
          obtain rfl:k=true:=ABq;clear a' be eL cD;go_wp2_with fail;go_meet;exact C5
     case rest=>
      obtain⟨rfl,rfl⟩:=hcut;cases k with
      | true =>
       obtain rfl:K=3:=by rw[<-eb.out,N (If bv.out)]
       exact I6
      | false =>
       replace eb:=eb.out;rw[V (Fc bv.out)]at eb;replace eb:=U eb;obtain⟨pd,pe⟩:∃B,Hid (EC T ao [4]=B):=⟨_,rfl⟩;have iU:=U (CQ wc #[.int .i64 4] [4] 3 rfl);have fU:=U (ac.out.step ((Al wc.heap.size wc).alloc (Ac _) (.cells #[.int .i64 4] 3)));obtain⟨⟨cf,b8,b',b9,cd,b6⟩,⟨ci,cb,b7,ca,cc,cg⟩⟩:=ac.out.box.load;go_wp2_with fail;refine(OW x T _ n cap ao _ 1 1 [4] pd _ fU.out.tab j0.out (dG.out.below fU.out.ab) bb cl iU.out rfl O pe).mono ?_;rintro e kv ⟨rfl,ad⟩;replace ac:=U (fU.out.step ad);clear ad iU fU;clear cf b8 b' b9 cd b6 ci cb b7 ca cc cg;exact ABu
   ·have dj:(f==1)=false:=by simp[F]
    by_cases G:f=2
    ·subst G;replace eb:=eb.out;unfold Mw at eb;rw[N Aw]at eb;replace eb:=U eb;obtain⟨q,jZ⟩:∃B,Hid (EC T ao [0,11]=B):=⟨_,rfl⟩;have iU:=U (CQ m #[.int .i64 0,.int .i64 11] [0,11] 3 rfl);have fU:=U (ac.out.step ((Al m.heap.size m).alloc (Ac _) (.cells #[.int .i64 0,.int .i64 11] 3)));obtain⟨⟨cf,b8,b',b9,cd,b6⟩,⟨ci,cb,b7,ca,cc,cg⟩⟩:=ac.out.box.load;go_wp2_with fail;refine(OW x T _ n cap ao _ 2 2 [0,11] q _ fU.out.tab j0.out (dG.out.below fU.out.ab) bb cl iU.out rfl O jZ).mono ?_;rintro e kv ⟨rfl,ad⟩;replace ac:=U (fU.out.step ad);clear ad iU fU;clear cf b8 b' b9 cd b6 ci cb b7 ca cc cg;cases q with
     | true =>
      obtain rfl:K=2:=Ah3;exact I6
     | false =>
      replace eb:=eb.out;rw[V Aim]at eb;replace eb:=U eb;obtain⟨k,C⟩:∃k:Bool,decide (z≠1/\z≠2/\z≠4/\z≠3)=k:=⟨_,rfl⟩;have bv:=U C;clear C;go_upto_region 10 with(fail);go_cut[35] (λv b4=>v=.bool k/\b4=kv)
      case first=>
       by_cases a':z=1
       ·subst a';obtain rfl:k=false:=AA1;go_wp2_with fail;go_meet;exact C5
       ·have c9:(z !=1)=true:=by simp[a']
        by_cases be:z=2
        ·subst be;obtain rfl:k=false:=AA1;go_wp2_with fail;go_meet;exact C5
        ·have c':(z !=2)=true:=by simp[be]
         by_cases eL:z=4
         ·subst eL;obtain rfl:k=false:=AA1;go_wp2_with fail;go_meet;exact C5
         ·have cs:(z !=4)=true:=by simp[eL]
          by_cases cD:z=3
          ·subst cD;obtain rfl:k=false:=AA1;go_wp2_with fail;go_meet;exact C5
          ·have da:(z !=3)=true:=by simp[cD]
           obtain rfl:k=true:=ABq;clear a' be eL cD;go_wp2_with fail;go_meet;exact C5
      case rest=>
       obtain⟨rfl,rfl⟩:=hcut;cases k with
       | true =>
        obtain rfl:K=3:=by rw[<-eb.out,N (If bv.out)]
        exact I6
       | false =>
        replace eb:=eb.out;rw[V (Fc bv.out)]at eb;replace eb:=U eb;obtain⟨pd,pe⟩:∃B,Hid (EC T ao [4]=B):=⟨_,rfl⟩;have iU:=U (CQ wc #[.int .i64 4] [4] 3 rfl);have fU:=U (ac.out.step ((Al wc.heap.size wc).alloc (Ac _) (.cells #[.int .i64 4] 3)));obtain⟨⟨cf,b8,b',b9,cd,b6⟩,⟨ci,cb,b7,ca,cc,cg⟩⟩:=ac.out.box.load;go_wp2_with fail;refine(OW x T _ n cap ao _ 1 1 [4] pd _ fU.out.tab j0.out (dG.out.below fU.out.ab) bb cl iU.out rfl O pe).mono ?_;rintro e kv ⟨rfl,ad⟩;replace ac:=U (fU.out.step ad);clear ad iU fU;clear cf b8 b' b9 cd b6 ci cb b7 ca cc cg;exact ABu
    ·have dk:(f==2)=false:=by simp[G]
     by_cases L:f=0
     ·subst L;replace eb:=eb.out;unfold Mw at eb;rw[V Aw,N rfl]at eb;replace eb:=U eb;obtain⟨q,jZ⟩:∃B,Hid (EC T ao [1,2,3,11]=B):=⟨_,rfl⟩;have iU:=U (CQ m #[.int .i64 1,.int .i64 2,.int .i64 3,.int .i64 11] [1,2,3,11] 3 rfl);have fU:=U (ac.out.step ((Al m.heap.size m).alloc (Ac _) (.cells #[.int .i64 1,.int .i64 2,.int .i64 3,.int .i64 11] 3)));obtain⟨⟨cf,b8,b',b9,cd,b6⟩,⟨ci,cb,b7,ca,cc,cg⟩⟩:=ac.out.box.load;go_wp2_with fail;refine(OW x T _ n cap ao _ 4 4 [1,2,3,11] q _ fU.out.tab j0.out (dG.out.below fU.out.ab) bb cl iU.out rfl O jZ).mono ?_;rintro e kv ⟨rfl,ad⟩;replace ac:=U (fU.out.step ad);clear ad iU fU;clear cf b8 b' b9 cd b6 ci cb b7 ca cc cg;cases q with
      | true =>
       obtain rfl:K=5:=Ah3;exact I6
      | false =>
       replace eb:=eb.out;rw[V Aim]at eb;replace eb:=U eb;by_cases am:z=0
       ·subst am;obtain rfl:K=0:=by rw[<-eb.out,V (λh=>h.1 rfl)]
        exact I6
       ·have dm:(z !=0)=true:=by simp[am]
        by_cases a9:z=4
        ·subst a9;obtain rfl:K=0:=by rw[<-eb.out,V (λh=>h.2 rfl)]
         exact I6
        ·have cs:(z !=4)=true:=by simp[a9]
         obtain rfl:K=6:=by rw[<-eb.out,N ⟨am,a9⟩]
         clear am a9;exact I6
     ·have dn:(f==0)=false:=by simp[L]
      obtain rfl:K=1:=by rw[<-eb.out];unfold Mw;rw[V (λh=>h.elim F G),V L]
      clear L F G eb;exact I6
 ·have dq:(A !=0)=true:=by simp[bl]
  have eG:=ba.out;unfold Ra at eG;exact Ai'
def Aj8(q:List Int->Bool)(L:List (List Int))(k:Nat)(h:k<L.length):(L.take (k+1)).any q=((L.take k).any q||q (L.getD k [])):=by
 rw[E9 h,MP];simp[h]
def Ar2(x:TV)(T:Y)(p:Option Addr)(n cap:Nat)(L:List (List Int))(K E:Int)(w:World)(cg:Ah w x T)(ci:Du x)(cm:Ey w p L)(bb:Hid (L.length=n))(cl:n<=17592186043904)(s:∀l∈L,l.length<=17592186043904)(c8:Hid (Cu T L=(K,E))):Calls prog 62 #[x.agg,.slice p n cap] w (Ar (.tuple #[.int .i64 K,.int .i64 E]) w):=by
 have cy:=U (Am.new cg);have cp:=U cm;have cq:=U s;have cb:=U ci;clear cg cm s ci;simp only[TV.agg];go_enter func62,ntmps62;go_wp2;go_loopw[6,16] (λv i wr=>∃k:Nat,k<=n/\i=.int .i64 k/\v=.bool ((L.take k).any (EF T))/\Hid (∀j,j<k->AB T (L.getD j [])=0)/\Hid (Am w x T wr)) (λ_ i _=>n-(intOf i).toNat)
 case atStart=>exact⟨0,Au _,rfl,rfl,λj ed=>O,cy⟩
 case round=>
  obtain⟨k,c7,rfl,rfl,cA,bc⟩:=hrel;by_cases cB:k<n
  ·have dJ:k<L.length:=by rw[bb.out];exact cB
   obtain⟨b,ff,q,c,rfl,F,_,dI⟩:=(cp.out.below bc.out.ab) k dJ;obtain⟨l,s⟩:∃l,L.getD k []=l:=⟨_,rfl⟩;have a9:=U (Aj8 (EF T) L k dJ);have b9:Hid (l.length<=17592186043904):=by unfold Hid;rw[<-s];exact cq.out _ (Qt L k dJ)
   rw[s]at F dI a9;have ad:=U dI;obtain⟨A,co⟩:∃A,Hid (AB T l=A):=⟨_,rfl⟩;have jk:=U s;obtain⟨G,am⟩:∃G,(L.take k).any (EF T)=G:=⟨_,rfl⟩;rw[am]at a9|-;have cc:=λW (a':Ah W x T) ba=>Jx x T q c l A W a' cb.out ba b9.out co;obtain⟨B,cr⟩:∃B,Hid (Kz T l=B):=⟨_,rfl⟩;have cd:=λW (a':Ah W x T) ba=>AfZ x T q c l B W a' cb.out ba b9.out cr;obtain⟨m,be⟩:∃m,l.length=m:=⟨_,rfl⟩;rw[be]at cc cd F;have cC:=U cc;have cD:=U cd;clear s am dI cc cd be;obtain⟨⟨bs,bv,bx,b0,b1,b2⟩,⟨b3,b4,b5,b6,b7,b8⟩⟩:=bc.out.box.load;go_wp2_with fail;refine(cC.out _ bc.out.tab ad.out).mono ?_;rintro e w1 ⟨rfl,C⟩;replace bc:=U (bc.out.step C);replace ad:=U (ad.out.below C);clear C F;clear bs bv bx b0 b1 b2 b3 b4 b5 b6 b7 b8;by_cases bl:A=0
   ·subst bl;have cs:Hid (∀j,j<k+1->AB T (L.getD j [])=0):=λj ed=>AAv;have cF:Hid (EF T l=B):=by unfold Hid;rw[<-cr.out];unfold Kz;rw[At co.out,BG]
    rw[cF.out]at a9;clear dJ;cases G with
    | true =>
     go_wp2;go_roundw
     case rel=>exact⟨k+1,O,An,by rw[a9.out,Bool.true_or],cs,bc⟩
     case measure=>first|(simp[intOf];done)|(simp[intOf];omega)
    | false =>
     obtain⟨⟨bs,bv,bx,b0,b1,b2⟩,⟨b3,b4,b5,b6,b7,b8⟩⟩:=bc.out.box.load;go_wp2_with fail;refine(cD.out _ bc.out.tab ad.out).mono ?_;rintro e w2 ⟨rfl,C⟩;replace bc:=U (bc.out.step C);clear C;clear bs bv bx b0 b1 b2 b3 b4 b5 b6 b7 b8;go_wp2;go_roundw
     case rel=>exact⟨k+1,O,An,by rw[a9.out,FE],cs,bc⟩
     case measure=>first|(simp[intOf];done)|(simp[intOf];omega)
   ·exact Ax'
  ·obtain rfl:k=n:=by omega
   have bt:(L.take k).any (EF T)=L.any (EF T):=by rw[AO ME]
   rw[bt];have b':Hid (∀l∈L,AB T l=0):=λl cl=>Awl;obtain⟨G,am⟩:∃G,L.any (EF T)=G:=⟨_,rfl⟩;rw[am];have ct:=U am;clear bt am cA;go_wp2;go_loopw[37] (λi cI=>∃j:Nat,j<=k/\i=.int .i64 j/\Hid (G=true->∀i,i<j->Dd T (L.getD i [])=0)/\Hid (Am w x T cI)) (λi _=>k-(intOf i).toNat)
   case atStart=>exact⟨0,Au _,rfl,λ_ i dI=>O,bc⟩
   case round=>
    obtain⟨j,ed,rfl,ce,cj⟩:=hrel;by_cases cO:j<k
    ·have ac:j<L.length:=by rw[bb.out];exact cO
     obtain⟨b,ff,q,c,rfl,F,_,dI⟩:=(cp.out.below cj.out.ab) j ac;obtain⟨l,s⟩:∃l,L.getD j []=l:=⟨_,rfl⟩;have b9:Hid (l.length<=17592186043904):=by unfold Hid;rw[<-s];exact cq.out _ (Qt L j ac)
     have c2:Hid (AB T l=0):=by unfold Hid;rw[<-s];exact b'.out _ (Qt L j ac)
     rw[s]at F dI;have ad:=U dI;have jk:=U s;obtain⟨z,ca⟩:∃z,Hid (Dd T l=z):=⟨_,rfl⟩;have c3:Hid (Ra T l=(z,0)):=by unfold Hid Ra;rw[V (by rw[c2.out];simp),ca.out]
     have cu:=Ata T l;rw[ca.out]at cu;obtain⟨c9,c'⟩:=cu;have cf:=λW (a':Ah W x T) ba=>AsZ x T q c l z 0 W a' cb.out ba b9.out c3;obtain⟨m,be⟩:∃m,l.length=m:=⟨_,rfl⟩;rw[be]at cf F;have c4:=U cf;clear s dI cf be;obtain⟨⟨bs,bv,bx,b0,b1,b2⟩,⟨b3,b4,b5,b6,b7,b8⟩⟩:=cj.out.box.load;go_wp2_with fail;refine(c4.out _ cj.out.tab ad.out).mono ?_;rintro e w2 ⟨rfl,C⟩;replace cj:=U (cj.out.step C);clear C F;clear bs bv bx b0 b1 b2 b3 b4 b5 b6 b7 b8;cases G with
     | false =>
      clear ac;go_wp2;go_roundw
      case rel=>exact⟨j+1,O,An,(λh=>Ds),cj⟩
      case measure=>first|(simp[intOf];done)|(simp[intOf];omega)
     | true =>
      by_cases cv:0<z
      ·have c5:decide ((0:Int)<z)=true:=At cv;have eG:=c8.out;rw[Acu b'.out ct.out ac (ce.out rfl) (by rw[jk.out,ca.out];omega)]at eG;injection eG with bt bd;subst bt;subst bd;clear ac;exact Aw4
      ·have c5:decide ((0:Int)<z)=false:=Ai cv;have c6:Hid (true=true->∀i,i<j+1->Dd T (L.getD i [])=0):=λh i dI=>by
        by_cases e:i=j
        ·rw[e,jk.out,ca.out];omega
        ·exact ce.out rfl i O
       clear ac;go_wp2;go_roundw
       case rel=>exact⟨j+1,O,An,c6,cj⟩
       case measure=>first|(simp[intOf];done)|(simp[intOf];omega)
    ·obtain rfl:j=k:=by omega
     have eG:=c8.out;have cx:Cu T L=(0,0):=by
      cases G with
      | false=>exact V4 b'.out ct.out
      | true =>
       refine Acr b'.out (λl cl=>?_);obtain⟨i,dI,e⟩:=W_ L l cl;rw[<-e];exact ce.out rfl i (by rw[bb.out]at dI;exact dI)
     rw[cx]at eG;injection eG with bt bd;subst bt;subst bd;clear cx;exact Aw4
def ApA{T:Y}{X:List (List Int)}{k:Nat}(h:k<X.length):(DD T X k).set k (X.getD k [])=DD T X k:=by
 have e:=QG T X k h;have c:k<(DD T X k).length:=by rw[Xb];exact h
 apply Ve J;intro i m q;by_cases b:i=k
 ·subst b;rw[List.getElem_set_self,<-e];simp[List.getD,c]
 ·rw[List.getElem_set_ne (λe=>b e.symm)]
def Adr{T:Y}{x z:List Int}(h:EV x=(z,0)):A8 T x=if Cn T z≠0 then([],Cn T z) else(z,0):=by
 unfold A8;rw[h];simp
def Ads{T:Y}{x z:List Int}{E:Int}(h:EV x=(z,E))(b:E≠0):A8 T x=([],E):=by
 unfold A8;rw[h];simp[b]
abbrev AkE(b:Nat)(x:TV)(g k:Nat)(v:Value)(w:World):Prop:=J_ b x w/\w.cell? ⟨g,k,none⟩=some v
def QY(x:TV)(T:Y)(s:ByteArray)(L:List (List Int))(K:Nat)(E:Int)(w:World)(dm:Ah w x T)(cv:Du x)(eE:s.size<=140737488355328)(dW:Hid (A9 T s.data.toList=(L,K,E))):Calls prog 27 #[x.agg,.string s] w (Le L K E w):=by
 obtain⟨cb,c6⟩:∃cb,Hid (Av T=cb):=⟨_,rfl⟩;obtain⟨D,c7,cc,eo⟩:∃D c7 cc,Hid (Bo s.data.toList=(D,c7,cc)):=⟨_,_,_,rfl⟩;obtain⟨M,cm,ba,dn⟩:∃M cm ba,Hid (Bl T D=(M,cm,ba)):=⟨_,_,_,rfl⟩;obtain⟨cd,dq⟩:∃cd,Hid (Bu T M=cd):=⟨_,rfl⟩;obtain⟨m,c8⟩:∃eF,Hid (BU T M=eF):=⟨_,rfl⟩;have A:Hid ((if cb≠0 then([],0,2)else if s.data.toList=[] then([],0,10)else if cc≠0 then([],c7,cc)else if ba≠0 then([],cm,ba)else if cd≠0 then([],0,cd)else DX T m)=(L,K,E)):=by
  unfold Hid;rw[<-dW.out];unfold A9 Ga;rw[c6.out,eo.out];simp only;rw[dn.out];simp only;rw[dq.out,c8.out]
 have fn:D.length<=4096:=Aw6;have fo:M.length<=4096:=AhD;have eG:m.length<=4096:=by rw[<-c8.out];exact Xg T M
 have eH:=U dm;have ac:=U (Am.new dm);have eI:Hid (FM s.data.toList=(D,(c7:Int),cc)):=AhX;clear dm dW eo;simp only[TV.agg];go_enter func27,ntmps27;obtain⟨⟨bl,bs,bv,bx,b1,b2⟩,⟨b3,b4,b6,b7,b8,b9⟩⟩:=ac.out.box.load;go_wp2_with fail;refine(Aft x T cb _ ac.out.tab cv c6).mono ?_;rintro e w1 ⟨rfl,C⟩;replace ac:=U (ac.out.step C);clear C;clear bl bs bv bx b1 b2 b3 b4 b6 b7 b8 b9;by_cases cx:cb=0
 ·have eJ:(cb !=0)=false:=by simp[cx]
  replace A:=A.out;rw[V O]at A;replace A:=U A;clear c6 cx;by_cases a':s.size=0
  ·have cy:s.data.toList=[]:=Bw a';have eK:=Uj s a';have b0:=A.out;rw[N cy]at b0;injection b0 with bt bd;injection bd with bd ct;subst bt;subst bd;subst ct;clear A cy a';exact RT
  ·have cy:s.data.toList≠[]:=λh=>a' Awv;have eK:=Ui s a';replace A:=A.out;rw[V cy]at A;replace A:=U A;clear cy a';go_wp2_with fail;refine(Afy s _ eE).mono ?_;rintro e w2 ⟨fp,rfl,ds,C⟩;rw[eI.out]at ds|-;replace ac:=U (ac.out.step C);obtain⟨dX,b',rfl,dY,eL⟩:=F8 ds;have dZ:Hid (Aq w2 dX D):=dY;have cB:=λW (a':Ah W x T) a9=>AfT x T dX b' D M cm ba W a' cv a9 O dn;simp only at cB|-;clear ds dY C eL;by_cases be:cc=0
   ·subst be;replace A:=A.out;rw[V J]at A;replace A:=U A;obtain⟨fq,d0⟩:∃n,D.length=n:=⟨_,rfl⟩;rw[d0]at cB|-;have d1:=U cB;clear d0 cB;obtain⟨⟨bl,bs,bv,bx,b1,b2⟩,⟨b3,b4,b6,b7,b8,b9⟩⟩:=ac.out.box.load;go_wp2_with fail;refine(d1.out _ ac.out.tab dZ.out).mono ?_;rintro e w3 ⟨fs,rfl,d2,C⟩;replace ac:=U (ac.out.step C);clear C;clear bl bs bv bx b1 b2 b3 b4 b6 b7 b8 b9;obtain⟨eM,eN,rfl,d3,eO⟩:=F8 d2;have d4:=U d3;have c9:=λW (a':Ah W x T) a9=>AfU x T eM eN M cd m W a' cv a9 O dq c8;clear d2 d3 eO d1 dZ;by_cases a9:ba=0
    ·subst a9;replace A:=A.out;rw[V J]at A;replace A:=U A;obtain⟨ft,d5⟩:∃n,M.length=n:=⟨_,rfl⟩;rw[d5]at c9|-;have d6:=U c9;clear d5 c9;obtain⟨⟨bl,bs,bv,bx,b1,b2⟩,⟨b3,b4,b6,b7,b8,b9⟩⟩:=ac.out.box.load;go_wp2_with fail;refine(d6.out _ ac.out.tab d4.out).mono ?_;rintro e fu ⟨v4,rfl,d7,C⟩;replace ac:=U (ac.out.step C);clear C;clear bl bs bv bx b1 b2 b3 b4 b6 b7 b8 b9;obtain⟨eP,eQ,rfl,d8,eR⟩:=F8 d7;have d9:=U d8;clear d7 d8 d6 d4;by_cases da:cd=0
     ·subst da;replace A:=A.out;rw[V J]at A;replace A:=U A;obtain⟨eS,dx⟩:∃n,m.length=n:=⟨_,rfl⟩;rw[dx]at eR eG|-;have dy:=U dx;clear dx dn dq c8;go_wp2_with fail;refine(Ass eP eS eQ m _ d9.out dy O).mono ?_;rintro e w2 ⟨g,b',rfl,eW,C⟩;have eT:Hid (w.heap.size<g):=Av5;have db:=U (eW.mono ac.out.ab.size);replace ac:=U (ac.out.step C);have d_:Hid (∀z∈AU m,z.length<=4096):=λz b5=>by have:=S7 m z b5;have:=dy.out;omega
      have ea:(AU m).length<=4097:=by have:=VV m;have:=dy.out;omega
      obtain⟨X,dc⟩:∃X,AU m=X:=⟨_,rfl⟩;rw[dc]at db d_ ea;have eh:=U dc;obtain⟨n,cC⟩:∃n,X.length=n:=⟨_,rfl⟩;rw[dc,cC];rw[cC]at ea;have bb:=U cC;have kt:=db.out.room;rw[cC]at kt;clear eW C dc cC d9;have eU:=eH;go_wp2;go_loopw[57] (λi wr=>∃k:Nat,k<=n/\i=.int .i64 k/\Hid (∀j,j<k->(A8 T (X.getD j [])).2=0)/\Hid (DJ wr w.heap.size g b' (DD T X k))/\Hid (Am w x T wr)) (λi _=>n-(intOf i).toNat)
      case atStart=>exact⟨0,Au _,rfl,λj eb=>O,by unfold Hid;rw[Ad8];exact db.out,ac⟩
      case round=>
       clear db ac;obtain⟨k,fv,rfl,cA,eW,bc⟩:=hrel;have eV:Hid ((DD T X k).length=n):=by unfold Hid;rw[Xb,bb.out]
       by_cases ec:k<n
       ·have cD:k<X.length:=by rw[bb.out];exact ec
        have ce:k<(DD T X k).length:=by rw[eV.out];exact ec
        obtain⟨v,am,⟨q,c,rfl,dz,ca,_⟩,_⟩:=eW.out.hd k ce;have ed:=eW.out.soft k ce;rw[QG T X k cD]at am dz ca;obtain⟨l,cl⟩:∃l,X.getD k []=l:=⟨_,rfl⟩;have ee:l.length<=4096:=d_.out l (by rw[<-cl];simp[List.getD,cD]);rw[cl]at am dz ca;have cF:=U cl;have dE:=U ce;have ku:=U cD;have ef:=U am;have co:=U ca;have eg:=U ed;obtain⟨z,F,cf⟩:∃z F,Hid (EV l=(z,F)):=⟨_,_,rfl⟩;have eX:z.length<=4096:=by have:=Adw l ee;rwa[cf.out]at this
        obtain⟨cp,dF⟩:∃cp,Hid (Cn T z=cp):=⟨_,rfl⟩;have dG:Hid (DJ wr w.heap.size g b' ((DD T X k).set k l)):=by unfold Hid;rw[<-cl,ApA cD];exact eW.out
        obtain⟨cI,dH⟩:∃n,l.length=n:=⟨_,rfl⟩;rw[dH]at am dz ee;have df:=U dH;have ei:g<wr.heap.size:=eW.out.hi;have ej:=U ei;obtain⟨B,cr⟩:∃B,Hid (D5 l=B):=⟨_,rfl⟩;clear cl cD ce ca ed dH ei;go_wp2_with fail;refine(OX q cI c l B _ co.out df O cr).mono ?_;rintro e w3 ⟨rfl,rfl⟩;go_upto_if 63 with(fail);go_cut[9] (λ_ ek=>F=0/\Hid (DJ ek w.heap.size g b' ((DD T X k).set k z))/\Hid (Am w x T ek))
        case first=>
         cases B with
         | false =>
          have b0:=cf.out;unfold EV at b0;rw[V (λh=>by rw[cr.out]at h;cases h.1)]at b0;injection b0 with bt bd;subst bt;have dJ:=U bd;clear bd;go_wp2_with fail;go_meet;exact⟨dJ.out.symm,dG,bc⟩
         | true =>
          go_wp2;go_loopw[13,66] (λt i wr=>∃(j:Nat) (ad:ByteArray),j<=cI/\i=.int .i64 j/\t=.string ad/\ad.size=j/\Hid (strOfNums (l.take j)=ad)/\Hid (Below w3.heap.size w3 wr)) (λ_ i _=>cI-(intOf i).toNat)
          case atStart=>exact⟨0,ByteArray.mk #[],Au _,rfl,rfl,rfl,rfl,Al _ _⟩
          case round=>
           obtain⟨j,ad,eb,rfl,rfl,eY,cq,cg⟩:=hrel;by_cases eZ:j<cI
           ·have dj:j<l.length:=by rw[df.out];exact eZ
            obtain⟨b,ff,rfl,e0⟩:=(co.out.below cg.out) j dj;obtain⟨y,dK⟩:∃y,l.getD j 0=y:=⟨_,rfl⟩;obtain⟨e1,e2⟩:=VF cr.out dj;rw[dK]at e0 e1 e2;have fw:IntKind.u8.wrap y=y:=LR;have cu:l.take (j+1)=l.take j++[y]:=by rw[C4 l j dj,dK]
            obtain⟨G,c'⟩:∃G,strOfNums [y]=G:=⟨_,rfl⟩;have e3:G.size=1:=RB;have e4:=Mc wr #[.int .u8 y] [y] 1 rfl rfl;rw[c']at e4;have e5:Hid (strOfNums (l.take (j+1))=ad++G):=AhN;have e6:Hid ((ad++G).size=j+1):=by unfold Hid;rw[E6,e3,eY]
            have e7:=U (cg.out.alloc cg.out.size (.cells #[.int .u8 y] 5));clear cu c' cq cg dK dj;go_wp2;go_roundw
            case rel=>exact⟨j+1,ad++G,O,An,rfl,e6.out,e5,e7⟩
            case measure=>simp[intOf];omega
           ·obtain rfl:j=cI:=by omega
            have el:Hid (strOfNums l=ad):=by
             have a':=cq.out;rwa[AO (by rw[df.out];exact Ac _)]at a'
            have em:Hid (Ap ad=l):=by unfold Hid;rw[<-el.out];exact Mo _ λc e8=>by have:=VG cr.out c e8;omega
            obtain⟨Q,en⟩:∃Q,Hid (Ft (Ap ad)=Q):=⟨_,rfl⟩;have ep:Hid ((if Q=true then Jv (Ap ad) else(l,0))=(z,F)):=by
             have e9:Ft l=Q:=by rw[<-en.out,em.out]
             have:=cf.out;unfold EV at this;rw[cr.out,e9]at this;unfold Hid;rw[em.out,<-this];cases Q<;>simp
            have e_:ad.size<=4096:=O;clear cq el;go_wp2_with fail;refine(X0 ad Q _ O en).mono ?_;rintro e fx ⟨rfl,eq⟩;have cO:=U (cg.out.trans (eq.mono cg.out.size));clear eq cg;cases Q with
            | false =>
             have b0:=ep.out;rw[V J]at b0;injection b0 with bt bd;subst bt;have dJ:=U bd;clear bd;have e':=U (dG.out.below cO.out);have fa:=U (bc.out.step cO.out);go_wp2_with fail;go_meet;exact⟨dJ.out.symm,e',fa⟩
            | true =>
             have fb:Hid (Jv (Ap ad)=(z,F)):=by have:=ep.out;rwa[N rfl]at this
             go_wp2_with fail;refine(AsT ad z F _ e_ fb).mono ?_;rintro e w6 ⟨v6,rfl,dL,er⟩;have c2:Below w3.heap.size w3 w6:=cO.out.trans (er.mono cO.out.size);obtain⟨es,et,rfl,fc,fd⟩:=F8 dL;have eu:=eW.out.cz dE.out (by rw[QG T X k ku.out,cF.out]) ef.out c2 (.inr (Iv dL cO.out.size));have fy:w6.cell? ⟨g,k,none⟩=some (.slice q j c):=(c2.cell (p:=⟨g,k,none⟩) ej.out).trans (by rw[ef.out,df.out]);have fz:w6.frozen? ⟨g,k,none⟩=false:=(EN (c2.block g ej.out)).trans eg.out;have dM:Hid (Am w x T (w6.setCell ⟨g,k,none⟩ (.slice es z.length et))):=(bc.out.step c2).bm eU.out eT.out;have dN:Hid (DJ (w6.setCell ⟨g,k,none⟩ (.slice es z.length et)) w.heap.size g b' ((DD T X k).set k z)):=eu;obtain⟨fA,ev⟩:∃n,z.length=n:=⟨_,rfl⟩;rw[ev]at dM dN fd|-;clear dL fc er c2 eu ev am;by_cases ci:F=0
             ·have d':(F !=0)=false:=by simp[ci]
              go_wp2_with fail;go_meet;exact⟨ci,dN,dM⟩
             ·have d':(F !=0)=true:=by simp[ci]
              have b0:=A.out;rw[XM (T:=T) (m:=m) (j:=k) AhY AhZ (by rw[eh.out,cF.out,Ads cf.out ci];exact ci),eh.out,cF.out,Ads cf.out ci]at b0;injection b0 with bt bd;injection bd with bd ct;subst bt;subst bd;simp only at ct;subst ct;clear A dN ci;go_wp2;go_ret3;exact Le.nil _ _ dM.out.ab
        case rest=>
         obtain⟨rfl,dO,ew⟩:=hcut;clear dG bc eW am co eg cr;have ce:k<((DD T X k).set k z).length:=by simpa using dE.out
         obtain⟨v,am,⟨dP,dQ,rfl,ex,ca,_⟩,_⟩:=dO.out.hd k ce;rw[O5 _ _ _ _ dE.out]at am ex ca;have co:=U ca;have dR:=λW (a':Ah W x T) a9=>ArW x T dP dQ z cp W a' cv a9 O dF;obtain⟨ey,ez⟩:∃n,z.length=n:=⟨_,rfl⟩;rw[ez]at am ex dR eX;have eA:=U dR;have fe:Hid (g<wc.heap.size):=dO.out.hi;clear ca dR ez ce;go_upto_region 29 with(fail);have d':=ew.out.step (Bx wc);have c3:=U d';have eB:(wc.drew).cell? ⟨g,k,none⟩=some (.slice dP ey dQ):=(Bx wc).cell (p:=⟨g,k,none⟩) fe.out |>.trans am;have dS:=U eB;have eC:=U (co.out.below (Bx wc));have dT:=U (dO.out.below (Bx wc));clear d' eB;obtain⟨⟨bl,bs,bv,bx,b1,b2⟩,⟨b3,b4,b6,b7,b8,b9⟩⟩:=ew.out.box.load;go_region_held3 (AkE w.heap.size x g k (.slice dP ey dQ))
          (first
           | exact⟨c3.out.box.flat,dS.out⟩
           | exact⟨(c3.out.step c4).box.flat,(c4.cell (p:=⟨g,k,none⟩) dT.out.hi).trans dS.out⟩)
          (first
           | (go_at_call 61;(with_reducible refine(eA.out _ c3.out.tab eC.out).mono ?_);rintro e fg ⟨rfl,c4⟩)
           | fail)
         all_goals
          have eD:=U (c3.out.step c4);have dU:=U (dT.out.below c4);clear c4 c3 dT dS eC eA co am bl bs bv bx b1 b2 b3 b4 b6 b7 b8 b9;by_cases c5:cp=0
          ·subst c5;have fh:((0:Int) !=0)=false:=rfl;have cj:A8 T (X.getD k [])=(z,0):=by rw[cF.out,Adr cf.out,dF.out];simp
           have fi:Hid (DJ fg w.heap.size g b' (DD T X (k+1))):=by
            have:=dU.out;have e:z=(A8 T (X.getD k [])).1:=by rw[cj]
            exact Axi
           have fj:Hid (∀j,j<k+1->(A8 T (X.getD j [])).2=0):=λj eb=>by
            by_cases e:j=k
            ·rw[e,cj]
            ·exact RO
           clear dU cj;go_wp2;go_roundw
           case rel=>exact⟨k+1,O,An,fj,fi,eD⟩
           case measure=>first|(simp[intOf];done)|(simp[intOf];omega)
          ·have fh:(cp !=0)=true:=by simp[c5]
           have cj:A8 T (X.getD k [])=([],cp):=by rw[cF.out,Adr cf.out,dF.out,N c5]
           have b0:=A.out;rw[XM (T:=T) (m:=m) (j:=k) AhY AhZ (by rw[eh.out,cj];exact c5),eh.out,cj]at b0;injection b0 with bt bd;injection bd with bd ct;subst bt;subst bd;simp only at ct;subst ct;clear A dU cj c5;go_wp2;go_ret3;exact Le.nil _ _ eD.out.ab
       ·obtain rfl:k=n:=by omega
        obtain⟨G,h9⟩:∃G,(X.map λx=>(A8 T x).1)=G:=⟨_,rfl⟩;obtain⟨dk,cs,eo⟩:∃cm ba,Hid (Cu T G=(cm,ba)):=⟨_,_,rfl⟩;have dV:=Ae4 (T:=T) (m:=m) (K:=dk) (E:=cs) (by rw[eh.out,bb.out];exact cA.out) (by rw[eh.out,h9];exact eo.out);rw[eh.out,h9]at dV;have kr:Hid ((if cs≠0 then([],dk.toNat,cs) else(G,0,0))=(L,K,E)):=by unfold Hid;rw[<-dV];exact A.out
        obtain⟨fk,fl⟩:∃n:Nat,dk=(n:Int):=⟨dk.toNat,(by have:=Al3 T G;rw[eo.out]at this;exact this.symm)⟩;subst fl;rw[Ef]at kr;have iS:Hid (DJ wr w.heap.size g b' G):=AwB;have ks:Hid (G.length=k):=by unfold Hid;rw[<-h9,C6,bb.out]
        have fm:Hid (∀l∈G,l.length<=17592186043904):=λl cl=>Avk;clear dV h9 A eW cA;obtain⟨⟨bl,bs,bv,bx,b1,b2⟩,⟨b3,b4,b6,b7,b8,b9⟩⟩:=bc.out.box.load;go_wp2_with fail;refine(Ar2 x T (some ⟨g,0,none⟩) k b' G fk cs _ bc.out.tab cv iS.out.ap ks O fm.out eo).mono ?_;rintro e w3 ⟨rfl,C⟩;replace bc:=U (bc.out.step C);replace iS:=U (iS.out.below C);clear C;clear bl bs bv bx b1 b2 b3 b4 b6 b7 b8 b9;by_cases a':cs=0
        ·subst a';exact AxY
        ·have d':(cs !=0)=true:=by simp[a']
         exact AzT
     ·have fB:(cd !=0)=true:=by simp[da]
      have b0:=A.out;rw[N da]at b0;injection b0 with bt bd;injection bd with bd ct;subst bt;subst bd;subst ct;clear A da;exact RT
    ·have fC:(ba !=0)=true:=by simp[a9]
     clear c9;have b0:=A.out;rw[N a9]at b0;injection b0 with bt bd;injection bd with bd ct;subst bt;subst bd;subst ct;clear A a9;exact RT
   ·have fD:(cc !=0)=true:=by simp[be]
    clear cB;have b0:=A.out;rw[N be]at b0;injection b0 with bt bd;injection bd with bd ct;subst bt;subst bd;subst ct;clear A be;exact RT
 ·have eJ:(cb !=0)=true:=by simp[cx]
  have b0:=A.out;rw[N cx]at b0;injection b0 with bt bd;injection bd with bd ct;subst bt;subst bd;subst ct;clear A c6 cx;exact RT
def Akm{T:Y}{b:List (List Int)}(h:∀y∈b,Cn T y=0)(c:∀y∈b,(AE y).2=0):Fk b=if(CW ((b.map λy=>strOfNums (AE y).1).map ByteArray.size)).2≠0 then([],CW ((b.map λy=>strOfNums (AE y).1).map ByteArray.size)) else(A7 (b.map λy=>(AE y).1),0,0):=by
 have e:(b.map λy=>strOfNums (AE y).1).map ByteArray.size=(b.map λy=>(AE y).1).map List.length:=by
  rw[LZ,LZ];exact Jc λy _=>Et _
 unfold Fk;rw[Tc b 0 c,e];simp only;rw[V (show ¬(0:Int)≠0 by simp)]
def Uc(x:TV)(T:Y)(s S:ByteArray)(X:List Int)(K:Nat)(E:Int)(w:World)(cd:Ah w x T)(cD:Du x)(cI:s.size<=140737488355328)(c8:Hid (Bf T s.data.toList=(X,K,E)))(eF:Hid (strOfNums X=S)):Calls prog 24 #[x.agg,.string s] w (Ar (.tuple #[.string S,.int .i64 K,.int .i64 E]) w):=by
 obtain⟨h,bv,h',fp⟩:∃h bv h',Hid (A9 T s.data.toList=(h,bv,h')):=⟨_,_,_,rfl⟩;have ac:=U (Am.new cd);clear cd;simp only[TV.agg];go_enter func24,ntmps24;obtain⟨⟨cO,c6,c7,c9,c',da⟩,⟨db,dc,df,dj,dk,dm⟩⟩:=ac.out.box.load;go_wp2_with fail;refine(QY x T s h bv h' _ ac.out.tab cD cI fp).mono ?_;rintro e w1 ⟨dR,L,dS,rfl,ce,A,dT,dU,C⟩;replace ac:=U (ac.out.step C);clear C;clear cO c6 c7 c9 c' da db dc df dj dk dm;have dn:=U ce;have bx:=U A;clear ce A;obtain⟨dq,dI,ds,dx,dy⟩:=Cp info9;by_cases bl:h'=0
 ·subst bl;have ev:((0:Int) !=0)=false:=rfl;have bl:(A9 T s.data.toList).2.2=0:=by rw[fp.out]
  have b1:Hid (∀y∈h,Cn T y=0):=Ahz;have b2:Hid (Fk h=(X,K,E)):=Av';obtain⟨M,b3⟩:∃M,(h.map λy=>strOfNums (AE y).1)=M:=⟨_,rfl⟩;have F:Hid (M.length=L):=by unfold Hid;rw[<-b3,C6,bx.out]
  have cf:=U b3;clear c8 bl fp b3;go_wp2;go_loopw[10,32] (λv i wr=>∃k:Nat,k<=L/\i=.int .i64 k/\Hid (∀j,j<k->(AE (h.getD j [])).2=0)/\Hid (Hm wr w1.heap.size v (M.take k))/\Hid (Below w1.heap.size w1 wr)) (λ_ i _=>L-(intOf i).toNat)
  case atStart=>exact⟨0,Au _,rfl,λj b4=>O,Hm.nil _ _,Al _ _⟩
  case round=>
   obtain⟨k,dV,rfl,cA,ba,dN⟩:=hrel;by_cases cg:k<L
   ·have ad:k<h.length:=by rw[bx.out];exact cg
    have b5:k<M.length:=by rw[F.out];exact cg
    obtain⟨b,ff,q,c,rfl,m,ci,b6⟩:=(dn.out.below dN.out) k ad;obtain⟨l,am⟩:∃l,h.getD k []=l:=⟨_,rfl⟩;have cj:Cn T l=0:=b1.out l (by rw[<-am];simp[List.getD,ad]);have dz:l.length<=4096:=(CN (MB cj).1).2.1;obtain⟨Z,a9,h_⟩:∃Z a9,Hid (AE l=(Z,a9)):=⟨_,_,rfl⟩;obtain⟨G,cl⟩:∃G,Hid (strOfNums Z=G):=⟨_,rfl⟩;have dE:Hid (M.take (k+1)=M.take k++[G]):=by
     have e:M.getD k ByteArray.empty=G:=by
      have cm:k<h.length:=ad;rw[<-cf.out];have dF:h[k]=l:=by have:=am;simpa[List.getD,cm] using this
      simp only[List.getD,Gg,CI cm,MW,MV,dF];rw[h_.out];exact cl.out
     unfold Hid;rw[Up M k b5,e]
    rw[am]at m ci b6;have cF:=U am;have dG:=U ad;have dH:=U b6;obtain⟨dJ,b7⟩:∃n,l.length=n:=⟨_,rfl⟩;rw[b7]at m ci dz;have dK:=U b7;have dW:=U b5;clear am ad b5 b6 b7 cj;go_wp2_with fail;refine(AfQ q dJ c l Z a9 G _ dH.out dK O h_ cl).mono ?_;rintro e w3 ⟨rfl,C⟩;have bb:=U (dN.out.trans (C.mono dN.out.size));have b8:=ba.out.below C;clear C dN ba m;by_cases bc:a9=0
    ·subst bc;have b9:((0:Int) !=0)=false:=rfl;have dL:Hid (∀j,j<k+1->(AE (h.getD j [])).2=0):=λj b4=>AAy;have co:(M.take k).length=k:=by rw[GL,F.out];omega
     have b':w3.ownsRow w1.heap.size 9 1 u10 k ((M.take k).map Value.string):=by have:=b8;unfold Hm at this;rwa[co]at this
     have fb:=U bb.out.size;clear b8;go_wp2_with (at_builtin;refine ID _ rfl _ _ 43 rfl w1.heap.size 9 dq (.string ByteArray.empty) 1 16 underlying43 dI ds dx dy rfl Aw _ _ _ rfl (b'.alloc _) ⟨_,0,none⟩ 1 1 [.string G] rfl rfl (IB _ _ _) ?c2 ?c3 ?c4 ?c5 ?_)
     case c2=>first|rfl|(intro u cp;simp at cp;subst cp;rfl)
     case c3=>unfold maxLen;omega
     case c4=>omega
     case c5=>have:=fb.out;simp;omega
     intro v5 cq cr cs _;have dM:Hid (Below w1.heap.size w1 cq):=(bb.out.alloc fb.out _).grown cs MM (λj b4=>(b'.lt j b4).1);have dO:Hid (Hm cq w1.heap.size v5 (M.take (k+1))):=by
      unfold Hid Hm;rw[dE.out,Bc,co];simpa using cr
     clear cr cs b' bb;go_wp2;go_roundw
     case rel=>exact⟨k+1,O,An,dL,dO,dM⟩
     case measure=>simp[intOf];omega
    ·have b9:(a9 !=0)=true:=by simp[bc]
     have b0:=b2.out;rw[Aa6 dG.out cA.out (by rw[cF.out,h_.out];exact bc),cF.out,h_.out]at b0;injection b0 with bt bd;injection bd with bd ct;subst bt;subst bd;simp only at ct;subst ct;obtain rfl:S=ByteArray.empty:=Rw;clear b2 eF bc b8;go_wp2;go_ret3;exact⟨rfl,ac.out.ab.trans (bb.out.mono ac.out.ab.size)⟩
   ·obtain rfl:k=L:=by omega
    have ca:=ba.out;rw[AO (by rw[F.out];exact Ac _)]at ca;obtain⟨cu,cv,rfl,cx,cy⟩:=ca.ap;rw[F.out]at cy|-;have cB:=U cx;have cb:∀y∈h,(AE y).2=0:=TD (X:=h) (P:=λy=>(AE y).2=0) (by rw[bx.out];exact cA.out);obtain⟨A,dP⟩:=Aa_ b1.out cb;have m:=Akm b1.out cb;rw[cf.out]at m A;obtain⟨cc,a',cC⟩:∃cc a',Hid (CW (M.map ByteArray.size)=(cc,a')):=⟨_,_,rfl⟩;rw[cC.out]at m;rw[b2.out]at m A;simp only at m A;rw[eF.out]at A;have dQ:=U A;have be:=U m;clear A dP m ca ba cx cy cb;go_wp2_with fail;refine(Yc cu k cv cc a' M _ cB.out F O cC).mono ?_;rintro e w3 ⟨rfl,rfl⟩;by_cases bs:a'=0
    ·subst bs;have b9:((0:Int) !=0)=false:=rfl;have b0:=be.out;rw[V J]at b0;injection b0 with bt bd;injection bd with bd ct;subst bd;subst ct;clear be bt;go_wp2_with fail;refine(Asx cu k cv S 0 M _ cB.out F O dQ).mono ?_;rintro e dX ⟨rfl,rfl⟩;exact Awg
    ·have b9:(a' !=0)=true:=by simp[bs]
     have b0:=be.out;rw[N bs]at b0;injection b0 with bt bd;injection bd with bd ct;subst bt;subst bd;subst ct;obtain rfl:S=ByteArray.empty:=Rw;clear be bs;exact Awg
 ·exact Ax4
def As'(x:TV)(T:Y)(s S:ByteArray)(X:List Int)(K:Nat)(E:Int)(w:World)(b3:Ah w x T)(b4:Du x)(b5:s.size<=140737488355328)(c8:Hid (JF T s.data.toList=(X,K,E)))(eF:Hid ((Cl X).1=S)):Calls prog 40 #[x.agg,.string s] w (Ar (.tuple #[.string S,.int .i64 K,.int .i64 E]) w):=by
 obtain⟨k,b6,b7,m⟩:∃k b6 b7,Hid (A9 T s.data.toList=(k,b6,b7)):=⟨_,_,_,rfl⟩;obtain⟨A,q,b,co⟩:∃A q b,Hid (Bf T s.data.toList=(A,q,b)):=⟨_,_,_,rfl⟩;obtain⟨C,cc⟩:∃C,Hid (strOfNums A=C):=⟨_,rfl⟩;have ac:=U (Am.new b3);clear b3;simp only[TV.agg];go_enter func40,ntmps40;obtain⟨⟨F,G,L,am,a9,ba⟩,⟨bb,bc,bl,bs,bv,bx⟩⟩:=ac.out.box.load;go_wp2_with fail;refine(Uc x T s C A q b _ ac.out.tab b4 b5 co cc).mono ?_;rintro e w1 ⟨rfl,ad⟩;replace ac:=U (ac.out.step ad);clear ad;clear F G L am a9 ba bb bc bl bs bv bx;by_cases a':b=0
 ·subst a';have cd:((0:Int) !=0)=false:=rfl;have hI:=AgJ (T:=T) (s:=s.data.toList) (by rw[co.out]);have b1:=(OR (Rl (T:=T) (s:=s.data.toList) (by rw[co.out])).1).2.2.2.2.2.2.2;rw[m.out]at hI b1;simp only at hI b1;injection b1 with ce b2;injection b2 with b2 cf;subst b2;subst cf;have b0:=c8.out;unfold JF at b0;rw[V YD,m.out]at b0;injection b0 with bt bd;injection bd with bd ct;simp only at bt;subst bd;subst ct;have cg:=U bt;rw[bt]at hI;have ci:Hid (Cl X=(S,0)):=Av0;have cy:=hI.2;clear hI c8 bt ce;obtain⟨⟨F,G,L,am,a9,ba⟩,⟨bb,bc,bl,bs,bv,bx⟩⟩:=ac.out.box.load;go_wp2_with fail;refine(QY x T s k 0 0 _ ac.out.tab b4 b5 m).mono ?_;rintro e w1 ⟨cj,cl,cm,rfl,b8,b9,cA,cB,ad⟩;replace ac:=U (ac.out.step ad);clear ad;clear F G L am a9 ba bb bc bl bs bv bx;have cp:=U b8;have cq:=U b9;clear b8 b9;go_wp2_with fail;refine(Asn cj cl cm k X _ cp.out cq O cg Hj).mono ?_;rintro e w3 ⟨cC,rfl,b',ad⟩;replace ac:=U (ac.out.step ad);obtain⟨cr,cs,rfl,ca,cu⟩:=F8 b';have cv:=U ca;have c:=λW a'=>NK cr cs X W a' BQ;rw[ci.out]at c;simp only at c;obtain⟨cD,cb⟩:∃n,X.length=n:=⟨_,rfl⟩;rw[cb]at c|-;have cx:=U c;clear ad b' ca cu cb c;go_wp2_with fail;refine(cx.out _ cv.out).mono ?_;rintro e cF ⟨rfl,ad⟩;exact AAB
 ·have cd:(b !=0)=true:=by simp[a']
  have b0:=c8.out;unfold JF at b0;rw[N (by rw[co.out];exact a'),co.out]at b0;exact AAH
end Go.Proofs.YtblcoicaeeiojaaGreatDoor
