/- The references of table: -/
import Derived.Test.YtblcoicaeeiojaaGreatDoorSOaPmIdnRA
set_option linter.all false
set_option maxHeartbeats 8000000
set_option maxRecDepth 100000
open Go.Proofs.Tryz
namespace Go.Proofs.YtblcoicaeeiojaaGreatDoor
open Go.RowKit
theorem AuN{l:List Sp}{c:Int}{k:Nat}(b:k<l.length)(h:val (l.take k) c=none):val (l.take (k+1)) c=if(l.getD k A_).1<=c/\c<=(l.getD k A_).2.1 then some (l.getD k A_).2.2 else none:=by
 rw[JE l k b,Ys,h,MA];rfl
theorem AuQ{l:List Sp}{c v:Int}(k:Nat)(h:val (l.take k) c=some v):val l c=some v:=by
 rw[<-FG k l,Ys,h];rfl
theorem AcK{l:List Mp}{c:Int}{k:Nat}(ba:k<l.length)(h:AP (l.take k) c=false)(b:(l.getD k Ay).1=c):As l c=(l.getD k Ay).2:=by
 induction l generalizing k with
 | nil=>simp at ba
 | cons m r e =>
  cases k with
  | zero=>simp only[DI]at b|-;rw[As,N b]
  | succ k =>
   simp only[CS]at b|-;simp only[Jd,AP,MQ,Py,L3]at h;rw[As,V h.1];exact e KL h.2 b
theorem AcY{l:List Mp}{c:Int}{k:Nat}(b:k<l.length)(h:AP (l.take k) c=false)(e:(l.getD k Ay).1≠c):AP (l.take (k+1)) c=false:=by
 rw[KF l k b];simp only[AP,MP,MQ,List.any_nil,U6,Py]at h|-;exact⟨h,Ai e⟩
theorem MC{l:List Sp}{c:Int}(h:BA l=true)(b:Bz c=true):val l c=none:=by
 cases e:val l c with
 | none=>rfl
 | some v =>
  obtain⟨s,k,q,A,_⟩:=Pd e;simp only[BA,AJ]at h;have:=AR.1 h.2 s k;have m:Eo s.1 s.2.1=true:=by
   rw[AfB];rw[GA]at b;omega
  rw[m]at this;cases this
theorem As7{T:Y}(h:BA T.ag=true)(c:Int):AM T c=if F9 c||decide (c=46)||Cg c then 1 else if GZ c then 3 else(val T.ag c).getD 0:=by
 unfold AM;by_cases b:Bz c=true
 ·rw[MC h b];rfl
 ·have e:F9 c=false:=by rw[<-I8,NB];rw[GA]at b;omega
  have k:Cg c=false:=by rw[<-I8,JD];rw[GA]at b;omega
  have m:GZ c=false:=by rw[<-I8,Hg];rw[GA]at b;omega
  have q:¬c=46:=by rw[GA]at b;omega
  simp only[F4,e,k,m,Ai q,Bool.or_self,V Bool.false_ne_true]
theorem Atf(p:Option Addr)(n a9:Nat)(l:List Sp)(c z:Int)(w:World)(C:Hid (l.length=n))(bt:n<=17592186043904)(F:Cs w p l)(G:Hid ((val l c).getD 0=z)):Calls prog 81 #[.slice p n a9,.int .i64 c] w (Ar (.int .i64 z) w):=by
 have a':=U F;clear F;go_enter func81,ntmps81;go_wp2;go_loopw[9] (λi wr=>∃k:Nat,k<=n/\i=.int .i64 k/\Hid (val (l.take k) c=none)/\Hid (Below w.heap.size w wr)) (λi _=>n-(intOf i).toNat)
 case atStart=>exact⟨0,Au _,rfl,rfl,Al _ _⟩
 case round=>
  obtain⟨k,bv,rfl,L,ad⟩:=hrel;by_cases ba:k<n
  ·have ac:k<l.length:=by rw[C.out];exact ba
   obtain⟨b,ff,rfl,bc,bd,be⟩:=(a'.out.below ad.out) k ac;have q:=AuN ac L.out;obtain⟨⟨f,t,v⟩,am⟩:∃s,l.getD k A_=s:=⟨_,rfl⟩;rw[am]at bc bd be q;simp only at q;have A:=U q;have eU:=U (ad.out.alloc ad.out.size (.cells #[.int .i64 f,.int .i64 t,.int .i64 v] 66));clear am q;by_cases e:f<=c
   ·have bl:decide (f<=c)=true:=At e;by_cases m:c<=t
    ·have bs:decide (c<=t)=true:=At m;have dm:Hid (z=v):=by
      unfold Hid;rw[<-G.out,AuQ (k+1) (by rw[A.out,N ⟨e,m⟩])];rfl
     clear e m;exact AwP
    ·have bs:decide (c<=t)=false:=Ai m;have bb:Hid (val (l.take (k+1)) c=none):=by unfold Hid;rw[A.out,V (λh=>m h.2)]
     clear e m;exact AiE
   ·have bl:decide (f<=c)=false:=Ai e;have bb:Hid (val (l.take (k+1)) c=none):=by unfold Hid;rw[A.out,V (λh=>e h.1)]
    clear e;exact AiE
  ·obtain rfl:k=n:=by omega
   have dm:Hid (z=0):=by
    have:=L.out;rw[AO (BW C.out)]at this;unfold Hid;rw[<-G.out,this];rfl
   exact Ahw
def MX(b:List Int)(w:World)(e:Ending)(w':World):Prop:=
 ∃p n c,e=.returned (.slice p n c)/\b.length=n/\n<=17592186043904/\Aq w' p b/\Below w.heap.size w w'
theorem Mu(v:Value)(l:List Mp)(c:Int)(e:List Int)(w:World)(h:DK w v l)(bc:Hid (As l c=e)):Calls prog 82 #[v,.int .i64 c] w (MX e w):=by
 obtain⟨p,b5,rfl,bd,bx⟩:=h;obtain⟨n,A⟩:∃n,l.length=n:=⟨_,rfl⟩;rw[A]at bx|-;have b0:=U bd;have be:=U A;clear bd A;go_enter func82,ntmps82;go_wp2;go_loopw[9] (λi wr=>∃k:Nat,k<=n/\i=.int .i64 k/\Hid (AP (l.take k) c=false)/\Hid (Below w.heap.size w wr)) (λi _=>n-(intOf i).toNat)
 case atStart=>exact⟨0,Au _,rfl,rfl,Al _ _⟩
 case round=>
  obtain⟨k,bl,rfl,C,m⟩:=hrel;by_cases b1:k<n
  ·have F:k<l.length:=by rw[be.out];exact b1
   obtain⟨b,ff,v,rfl,bs,bt,h⟩:=(b0.out.below m.out) k F;have G:=U (AcK F C.out);have jG:=U (AcY F C.out);obtain⟨⟨f,tl⟩,bv⟩:∃s,l.getD k Ay=s:=⟨_,rfl⟩;rw[bv]at bs h G jG;obtain⟨L,ac,rfl,ad,q⟩:=h;obtain⟨am,a9⟩:∃n,tl.length=n:=⟨_,rfl⟩;simp only at bs bt q ad G jG;rw[a9]at bt q;have b2:=U a9;have b3:=U (ad.below ((Al _ _).alloc (Ac _) (.cells #[.int .i64 f,.slice L am ac] 73)));have eU:=U (m.out.alloc m.out.size (.cells #[.int .i64 f,.slice L am ac] 73));have b4:=U q;clear bv a9 ad q;by_cases a':f=c
   ·have d_:(f==c)=true:=by simp[a']
    have ba:Hid (e=tl):=by unfold Hid;rw[<-bc.out];exact G.out a'
    clear a';go_wp2;go_ret;rw[ba.out];exact⟨L,am,ac,rfl,b2.out,b4.out,b3.out,eU.out⟩
   ·exact AAe
  ·obtain rfl:k=n:=by omega
   have ba:Hid (e=[]):=by
    have:=C.out;rw[AO (BW be.out)]at this;unfold Hid;rw[<-bc.out,FN this]
   go_wp2;go_ret;rw[ba.out];exact⟨none,0,0,rfl,rfl,O,λk bl=>absurd bl (FH _),m.out⟩
theorem Asb(x:TV)(T:Y)(c:Int)(B:Bool)(w:World)(h:Ah w x T)(C:Hid (Kh T c=B)):Calls prog 130 #[x.agg,.int .i64 c] w (Ar (.bool B) w):=by
 obtain⟨a0,a1,a2,a3,a4,a5,bs,bt,bv,bx,b0,b1⟩:=x;obtain⟨p,b2,m,F,ba⟩:=h.af;obtain⟨n,q⟩:∃n,T.af.length=n:=⟨_,rfl⟩;rw[q]at m ba;simp only at m;subst m;have ac:=U (Am.new h);have bb:=U (F.below ac.out.ab);have G:=U q;have L:=ac.out.box;simp only[AS]at L;obtain⟨⟨_,_,_,_,_,_⟩,⟨_,_,_,_,b3,_⟩⟩:=L;clear F q h;simp only[TV.agg];go_enter func130,ntmps130;go_wp2;go_loop[6,10] (λ_ i=>∃k:Nat,k<=n/\i=.int .i64 k/\Hid ((T.af.take k).contains c=false)) (λ_ i=>n-(intOf i).toNat)
 case atStart=>exact⟨0,Au _,rfl,rfl⟩
 case round=>
  obtain⟨k,b4,rfl,ad⟩:=hrel;by_cases bc:k<n
  ·have am:k<T.af.length:=by rw[G.out];exact bc
   obtain⟨b,ff,rfl,bd⟩:=bb.out k am;have A:(T.af.take (k+1)).contains c=(c==T.af.getD k 0):=by
    rw[C4 T.af k am,List.contains_append,ad.out,FE,List.contains_cons,List.contains_nil,U6]
   obtain⟨f,a9⟩:∃s,T.af.getD k 0=s:=⟨_,rfl⟩;rw[a9]at bd A;have a':=U A;clear a9 A;by_cases e:f=c
   ·have be:(f==c)=true:=by simp[e]
    have dm:Hid (B=true):=by
     unfold Hid;rw[<-C.out,Kh,PJ];have:=a'.out;rw[show (c==f)=true by simp[e],PJ]at this;exact KW this
    clear e;exact Ajk
   ·have be:(f==c)=false:=by simp[e]
    have bl:Hid ((T.af.take (k+1)).contains c=false):=by unfold Hid;rw[a'.out];simp;omega
    clear e;go_wp2;go_round
    case rel=>exact⟨k+1,O,An,bl⟩
    case measure=>simp[intOf];omega
  ·obtain rfl:k=n:=by omega
   have dm:Hid (B=false):=by
    have:=ad.out;rw[AO (BW G.out)]at this;unfold Hid;rw[<-C.out];exact this
   exact Ajk
theorem Mx(v:Value)(l:List Sp)(c z:Int)(w:World)(b:Cw w v l)(e:Hid ((val l c).getD 0=z)):Calls prog 81 #[v,.int .i64 c] w (Ar (.int .i64 z) w):=by
 obtain⟨p,h,rfl,k,m⟩:=b;exact Atf p _ h l c z w rfl m k e
theorem Kv(x:TV)(T:Y)(c z:Int)(w:World)(b:Ah w x T)(h:Hid (Ao T c=z)):Calls prog 91 #[x.agg,.int .i64 c] w (Ar (.int .i64 z) w):=by
 have ac:=U (Am.new b);have k:=ac.out.bP;clear b;simp only[TV.agg];go_enter func91,ntmps91;go_wp2_with fail;refine(Mx x.a1 T.ai c z _ ac.out.tab.ai h).mono ?_;exact Ah4
theorem AfN(x:TV)(T:Y)(c:Int)(B:Bool)(w:World)(h:Ah w x T)(dH:DB 1 1 T.an=true)(A:Hid (Mi T c=B)):Calls prog 65 #[x.agg,.int .i64 c] w (Ar (.bool B) w):=by
 have b:=U (Am.new h);have k:=b.out.bQ;obtain⟨z,m⟩:∃z,Hid ((val T.an c).getD 0=z):=⟨_,rfl⟩;have C:Hid ((z==1)=B):=by
  unfold Hid;rw[<-m.out,<-A.out,Mi];cases lX:val T.an c with
  | none=>rfl
  | some v =>
   exact AyL
 clear h dH;simp only[TV.agg];go_enter func65,ntmps65;go_wp2_with fail;refine(Mx x.a6 T.an c z _ b.out.tab.an m).mono ?_;rintro e w1 ⟨rfl,q⟩;have F:=U (b.out.step q);clear q k;go_wp2;go_ret;exact⟨by rw[C.out];rfl,F.out.ab⟩
theorem Ky(c:Int)(B:Bool)(w:World)(b:Hid (Cg c=B)):Calls prog 80 #[.int .i64 c] w λe w'=>e=.returned (.bool B)/\w=w':=b.out▸Af3 c w
theorem QV(c:Int)(B:Bool)(w:World)(b:Hid (ED c=B)):Calls prog 128 #[.int .i64 c] w λe w'=>e=.returned (.bool B)/\w=w':=b.out▸AfP c w
theorem QW(c:Int)(B:Bool)(w:World)(b:Hid (F9 c=B)):Calls prog 79 #[.int .i64 c] w λe w'=>e=.returned (.bool B)/\w=w':=b.out▸AfR c w
theorem Ub(x:TV)(T:Y)(c z:Int)(w:World)(s:Ah w x T)(A:BA T.ag=true)(G:Hid (AM T c=z)):Calls prog 53 #[x.agg,.int .i64 c] w (Ar (.int .i64 z) w):=by
 have ac:=U (Am.new s);have k:=ac.out.aV;have q:=As7 A c;rw[G.out]at q;obtain⟨L,df⟩:∃z,Hid (F9 c=z):=⟨_,rfl⟩;obtain⟨S,eF⟩:∃z,Hid (Cg c=z):=⟨_,rfl⟩;obtain⟨D,am⟩:∃z,(c==46)=z:=⟨_,rfl⟩;have C:decide (c=46)=D:=am;rw[df.out,eF.out,C]at q;have m:=U q;clear s A q C;simp only[TV.agg];cases L with
 | true =>
  have dm:Hid (z=1):=m.out;go_enter func53,ntmps53;go_wp2_with fail;refine(QW c true _ df).mono ?_;exact ZH
 | false =>
  cases D with
  | true =>
   have dm:Hid (z=1):=m.out;go_enter func53,ntmps53;go_wp2_with fail;refine(QW c false _ df).mono ?_;exact ZH
  | false =>
   cases S with
   | true =>
    have dm:Hid (z=1):=m.out;go_enter func53,ntmps53;go_wp2_with fail;refine(QW c false _ df).mono ?_;rintro e jD ⟨rfl,rfl⟩;go_wp2_with fail;refine(Ky c true _ eF).mono ?_;exact ZH
   | false =>
    by_cases b:65<=c/\c<=90
    ·have F:decide (65<=c)=true:=At b.1;have a9:decide (c<=90)=true:=At b.2;have dm:Hid (z=3):=by
      have:=m.out;rwa[V J,N (Hg.2 b)]at this
     clear b;go_enter func53,ntmps53;go_wp2_with fail;refine(QW c false _ df).mono ?_;rintro e jD ⟨rfl,rfl⟩;go_wp2_with fail;refine(Ky c false _ eF).mono ?_;exact ZH
    ·have dm:Hid ((val T.ag c).getD 0=z):=by
      have:=m.out;rw[V J,V (λh=>b (Hg.1 h))]at this;exact this.symm
     have ba:Hid (¬(65<=c/\c<=90)):=b;clear b;by_cases a':65<=c
     ·have F:decide (65<=c)=true:=At a';have a9:decide (c<=90)=false:=Ai λh=>ba.out ⟨a',h⟩;exact Aws
     ·have F:decide (65<=c)=false:=Ai a';exact Aws
theorem Asu(x:TV)(T:Y)(w:World)(bl:Ah w x T)(bs:BA T.ag=true):Calls prog 87 #[x.agg] w (Ar (.bool (r5 T)) w):=by
 obtain⟨a0,a1,a2,a3,a4,a5,b0,b1,dV,b2,b3,b4⟩:=x;obtain⟨pm,ce,cj,cy,dj⟩:=bl.map;obtain⟨n,a9⟩:∃n,T.map.length=n:=⟨_,rfl⟩;rw[a9]at cj dj;simp only at cj;subst cj;obtain⟨cl,cm,A,cA,dk⟩:=bl.ag;obtain⟨C,co⟩:∃n,T.ag.length=n:=⟨_,rfl⟩;rw[co]at A dk;simp only at A;subst A;have cB:=U (Am.new bl);have cC:=U bs;have cD:AH 0 T.ag=true:=by simp only[BA,AJ]at bs;exact bs.1
 have cp:=U cD;have bb:=U a9;have cF:=U co;have dm:=U cy;have dn:=U cA;obtain⟨ba,cq⟩:∃ba,Hid (D7 3 T.ag=ba):=⟨_,rfl⟩;have cO:Hid (T.map.all (Gw T)=true->ba=n->r5 T=true):=λh e=>by
  unfold r5;rw[h,cq.out,a9,BG];exact At e
 have dq:Hid (T.map.all (Gw T)=false->r5 T=false):=λh=>by unfold r5;rw[h];rfl
 have ds:Hid (ba≠n->r5 T=false):=λh=>by unfold r5;rw[cq.out,a9,Ai h,Ib]
 clear bl bs cD a9 co cy cA;have q:=cB.out.box;simp only[AS]at q;obtain⟨⟨_,_,_,_,_,b6⟩,⟨_,_,_,_,_,_⟩⟩:=q;simp only[TV.agg];go_enter func87,ntmps87;go_wp2;go_loopw[3,14] (λv i wr=>∃k:Nat,k<=C/\i=.int .i64 k/\(∃z:Int,0<=z/\z<=1114112/\v=.int .i64 z/\Hid (D7 3 (T.ag.take k)=z))/\Hid (Am w ⟨a0,a1,a2,a3,a4,.slice cl C cm,b0,b1,.slice pm n ce,b2,b3,b4⟩ T wr)) (λ_ i _=>C-(intOf i).toNat)
 case atStart=>exact⟨0,Au _,rfl,⟨0,O,O,rfl,rfl⟩,cB⟩
 case round=>
  obtain⟨k,dy,rfl,⟨z,dz,dE,rfl,b5⟩,bc⟩:=hrel;by_cases cr:k<C
  ·have G:k<T.ag.length:=by rw[cF.out];exact cr
   obtain⟨b,ff,rfl,L,F,jd⟩:=(dn.out.below bc.out.ab) k G;obtain⟨c2,c3,c4⟩:=Aa9 cp.out k G;have c5:=AbV (v:=3) (SL (k+1) cp.out);have c6:=AcF (SL (k+1) cp.out) O;have cu:D7 3 (T.ag.take (k+1))=z+if(T.ag.getD k A_).2.2=3 then(T.ag.getD k A_).2.1-(T.ag.getD k A_).1+1 else 0:=by rw[JE T.ag k G,SW,b5.out]
   obtain⟨⟨f,t,v⟩,A⟩:∃s,T.ag.getD k A_=s:=⟨_,rfl⟩;rw[A]at L F jd c2 c3 c4 cu;simp only at L F jd c2 c3 c4 cu;have ac:=U (bc.out.step ((Al _ _).alloc (Ac _) (.cells #[.int .i64 f,.int .i64 t,.int .i64 v] 66)));by_cases ad:v=3
   ·have dG:(v==3)=true:=by simp[ad]
    rw[N ad]at cu;have dH:z+(t-f+1)<=1114112:=O;have cs:=U cu;clear A cu c5 c6 ad b6;go_wp2;go_roundw
    case rel=>exact⟨k+1,O,An,⟨z+(t-f+1),O,dH,An,cs⟩,ac⟩
    case measure=>simp[intOf];omega
   ·have dG:(v==3)=false:=by simp[ad]
    rw[V ad,Int.add_zero]at cu;have cs:=U cu;clear A cu c5 c6 ad b6;go_wp2;go_roundw
    case rel=>exact⟨k+1,O,An,⟨z,dz,dE,rfl,cs⟩,ac⟩
    case measure=>simp[intOf];omega
  ·obtain rfl:C=k:=by omega
   have dx:Hid (ba=z):=by
    unfold Hid;rw[<-b5.out,<-cq.out,AO (BW cF.out)]
   have q:=bc.out.box;simp only[AS]at q;obtain⟨⟨_,_,_,_,_,_⟩,⟨_,_,b7,_,_,_⟩⟩:=q;by_cases am:z=n
   ·have dJ:(z !=(n:Int))=false:=by simp[am]
    have dK:Hid (T.map.all (Gw T)=true->r5 T=true):=λh=>cO.out h (dx.out.trans am);clear am cO b6;go_wp2;obtain⟨c7,rfl⟩:∃c7:World,c7=wr:=⟨_,rfl⟩;have dM:=U bc.out;clear bc b7;go_loopw[38] (λi wr=>∃k:Nat,k<=n/\i=.int .i64 k/\Hid ((T.map.take k).all (Gw T)=true)/\Hid (Am w ⟨a0,a1,a2,a3,a4,.slice cl C cm,b0,b1,.slice pm n ce,b2,b3,b4⟩ T wr)) (λi _=>n-(intOf i).toNat)
    case atStart=>exact⟨0,Au _,rfl,DH,dM⟩
    case round=>
     obtain⟨k,dy,rfl,cI,bc⟩:=hrel;by_cases cr:k<n
     ·have G:k<T.map.length:=by rw[bb.out];exact cr
      obtain⟨b,ff,v,rfl,L,F,bt,ct,rfl,bd,cv⟩:=(dm.out.below bc.out.ab) k G;have cu:=Fj (Gw T) T.map k Ay G;rw[cI.out,BG]at cu;have be:Gw T (T.map.getD k Ay)=false->r5 T=false:=λh=>dq.out (D4 _ T.map (k+1) RG);obtain⟨⟨f,y⟩,A⟩:∃s,T.map.getD k Ay=s:=⟨_,rfl⟩;rw[A]at L F cu be bd cv;simp only at L F cu be bd cv;rw[Ad2]at cu be;obtain⟨m,cx⟩:∃m,y.length=m:=⟨_,rfl⟩;rw[cx]at F cv;have hO:=U cu;have eV:=U be;have dW:=U bd;have kE:=U cx;have ac:=U (bc.out.step ((Al _ _).alloc (Ac _) (.cells #[.int .i64 f,.slice bt m ct] 73)));have dN:=U (Gi.new wr f (.slice bt m ct) 73);have dO:=U (BE.alloc bd (.cells #[.int .i64 f,.slice bt m ct] 73));obtain⟨z,b5⟩:∃z,Hid (AM T f=z):=⟨_,rfl⟩;clear A cu be bd cx;have q:=ac.out.box;simp only[AS]at q;obtain⟨⟨cf,b8,b',b9,cd,b6⟩,⟨ci,cb,b7,ca,cc,cg⟩⟩:=q;go_wp2_with fail;refine(Ub _ T f z _ ac.out.tab cC.out b5).mono ?_;rintro e w2 ⟨rfl,bv⟩;have dL:=U (ac.out.step bv);have dP:=U (dN.out.below bv);have dQ:=U (dO.out.below bv);clear bv cf b8 b' b9 cd b6 ci cb b7 ca cc cg L F;by_cases e':z=3
      ·have iE:(z !=3)=false:=by simp[e']
       have dx:Hid (AM T f=3):=b5.out.trans e';have c8:=dP.out;simp only[Gi]at c8;obtain⟨dR,dS⟩:=c8;clear e';go_wp2;obtain⟨c9,rfl⟩:∃c9:World,c9=w2:=⟨_,rfl⟩;go_loopw[50] (λi c'=>∃j:Nat,j<=m/\i=.int .i64 j/\Hid ((y.take j).all (Hu T)=true)/\Hid (Am w ⟨a0,a1,a2,a3,a4,.slice cl C cm,b0,b1,.slice (some ⟨b,ff,none⟩) n ce,b2,b3,b4⟩ T c')/\Hid (Aq c' bt y)) (λi _=>m-(intOf i).toNat)
       case atStart=>exact⟨0,Au _,rfl,DH,dL,dQ⟩
       case round=>
        obtain⟨j,dX,rfl,kC,fz,kD⟩:=hrel;clear dR dS;by_cases dT:j<m
        ·have da:j<y.length:=by rw[kE.out];exact dT
         obtain⟨dY,dZ,rfl,jd⟩:=kD.out j da;have bx:=Fj (Hu T) y j 0 da;rw[kC.out,BG]at bx;obtain⟨c,db⟩:∃c,y.getD j 0=c:=⟨_,rfl⟩;rw[db]at jd bx;have fG:=U bx;obtain⟨u,dc⟩:∃u,Hid (AM T c=u):=⟨_,rfl⟩;have df:Hu T c=(decide (u=1)||decide (u=4)):=by rw[Hu,dc.out]
         have lU:=U df;have q:=fz.out.box;simp only[AS]at q;obtain⟨⟨cf,b8,b',b9,cd,b6⟩,⟨ci,cb,b7,ca,cc,cg⟩⟩:=q;clear db bx df;go_wp2_with fail;refine(Ub _ T c u _ fz.out.tab cC.out dc).mono ?_;exact Az0
        ·exact AAf
      ·exact AyE
     ·obtain rfl:k=n:=by omega
      have d8:Hid (T.map.all (Gw T)=true):=UD;have dU:=U (dK.out d8.out);go_wp2;go_ret;rw[dU.out];exact RI
   ·have dJ:(z !=(n:Int))=true:=by simp[am]
    have fq:=U (ds.out (by rw[dx.out];exact am));clear am b6;go_wp2;go_ret;rw[fq.out];exact RI
theorem Yh{w: World}{ops: Array Oper}{o: Oper}{a: Act}{K: Act->World->Prop}{Q: Exit->Act->World->Prop}{E: Prop}(cA: o.guard = none)(s x: Operand)
  (k:o.op=.call { callee:=.builtin .append,args:=#[s,x],argTypes:=#[23,23]})
  (base:Nat) (v:Value) (xs:List Sp) (q:a.eval s=v) (A:A6 w base v xs)
  (p:Option Addr) (m c:Nat) (b:List Sp) (C:b.length=m) (F:a.eval x=.slice p m c) (G:Cs w p b)
  (L:xs.length+b.length<=1099511627776) (ac:base<=w.heap.size)
  (h:∀e w',A6 w' base e (xs++b)->w.grownBy w' v.ownBlock->K (a.put o.dst e) w') :
  if Region.wanted o (yielded ops a.tmps)=true then Oper.wp prog o a w K Q else E:=by
 have ad:Region.wanted o (yielded ops a.tmps)=true:=Pn;rw[N ad];exact Yx s x k base v xs q A p m c b C F G L ac h
def Ajv(g i:Nat)(h:Value)(L:List Sp)(w:World)(e:Ending)(w':World):Prop:=
 e=.returned (.tuple #[])/\∃v,Cr w w' g i v/\Cw w' v L/\(v=h\/∀b ff n c,v=.slice (some ⟨b,ff,none⟩) n c->w.heap.size<=b/\b<w'.heap.size)
theorem Hc{W w1:World}(h:W.grownBy w1 (Value.ownBlock (.slice none 0 0))):Ad W w1 (λ_=>False):=⟨h.os,h.tape,h.output,h.size,λk b _=>h.block k b Zj⟩
theorem AoC{W w1:World}{o:Obj}(h:(W.alloc o).grownBy w1 (Value.ownBlock (.slice none 0 0))):Ad W w1 (λ_=>False):=
 (Ad.alloc W o).trans (Hc h) (λ_ _ e=>e) (λ_ _ e=>e)
theorem Ad.cw{W w1:World}{R:Nat->Prop}(h:Ad W.drew w1 R):Ad W w1 R:=⟨h.os,h.tape,h.output,h.size,h.block⟩
theorem A6.dC{w:World}{B:Nat}{v:Value}{l:List Sp}(h:A6 w B v l)(k:l.length<=17592186043904):FK w (λb=>B<=b) v l:=by
 obtain⟨p,c,rfl,m⟩:=h.ap;exact⟨⟨p,c,rfl,m,k⟩,λb ff n c e=>Bs h b KM⟩
theorem Cs.keeps{w w':World}{p:Option Addr}{l:List Sp}(h:Cs w p l)(b:Ad w w' (λ_=>False)):Cs w' p l:=h.below (b.below (Ac _) (λ_ _ e=>e.elim))
theorem AaP(g i:Nat)(p:Option Addr)(n cap:Nat)(L:List Sp)(s:Sp)(z:Int)(w:World)(G:w.cell? ⟨g,i,none⟩=some (.slice p n cap))(ba:w.frozen? ⟨g,i,none⟩=false)(b1:Cs w p L)(b2:L.length=n)(cq:n<=1000):Calls prog 34 #[.pointer (some ⟨g,i,none⟩),NP s,.int .i64 z] w (Ajv g i (.slice p n cap) (Ct L s z) w):=by
 obtain⟨f,t,v⟩:=s;have bc:g<w.heap.size:=AN w _ G;have bd:=U b1;have bb:=U b2;clear b1 b2;by_cases b3:0<z
 ·have be:Hid (Ct L (f,t,v) z=L++[(f,t,z)]):=by unfold Hid Ct;rw[N b3]
  obtain⟨W,ac⟩:∃W:World,W=w.alloc (.cells #[.int .i64 f,.int .i64 t,.int .i64 z] 66):=⟨_,rfl⟩;obtain⟨h,q⟩:∃h,h=w.heap.size:=⟨_,rfl⟩;have ad:Ad w W (λ_=>False):=by rw[ac];exact Ad.alloc _ _
  have b9:DZ W h f t z:=by rw[ac,q];exact DZ.new _ _ _ _ _
  obtain⟨b',ca,cb,_,_⟩:=b9;have cc:W.cell? ⟨g,i,none⟩=some (.slice p n cap):=ad.cell G (λe=>e);have cr:W.frozen? ⟨g,i,none⟩=false:=(EN (a:=⟨g,i,none⟩) (ad.block g bc (λe=>e))).trans ba;have b4:=U (Cs.keeps bd.out ad);have cd:=U ad;have b5:h<W.heap.size:=by rw[ac,q];simp
  have cs:(W.alloc (.cells #[.int .i64 f,.int .i64 t,.int .i64 z] 66)).cell? ⟨g,i,none⟩=some (.slice p n cap):=(Ad.alloc W _).cell cc (λe=>e);clear ad;go_enter func34,ntmps34;go_upto_region 3 with(fail);rw[<-ac,<-q];have bl:=U q;have ce:=U G;have cf:=U ba;clear ac G ba bd q;go_region_law
   (first
    | (refine Yh (by rfl) (.const (.slice none 0 0)) _ (by rfl) h (.slice none 0 0) [] (by rfl) (A6.nil _ _) p n cap L bb.out (by rfl) (by first | exact b4.out | exact b4.out.alloc _) (by have := bb.out; simp; omega) (by first | exact Sn b5 | (simp; omega)) ?_
       intro bs w1 am m
       have A:Ad W w1 (λ_=>False):=by first|exact(Hc m).cw|exact(AoC (W:=W.drew) m).cw
       have ct:w1.cell? ⟨h,0,none⟩=some (.int .i64 f):=A.cell b' (λe=>e)
       have cu:w1.cell? ⟨h,1,none⟩=some (.int .i64 t):=A.cell ca (λe=>e)
       have cv:w1.cell? ⟨h,2,none⟩=some (.int .i64 z):=A.cell cb (λe=>e)
       have cg:h<w1.heap.size:=Ci b5 A.size)
    | (refine Yh (by rfl) _ _ (by rfl) h bs ([] ++ L) (by rfl) (by first | exact am | exact am.alloc _) _ 1 1 [(f, t, z)] rfl (by rfl) (by first | exact Xm w1 f t z _ | exact (Xm W f t z 66).below ⟨m.os, m.tape, m.output, m.size, λk bt => m.block k bt (by simp [Value.ownBlock])⟩) (by have := bb.out; simp; omega) (by first | exact Sn cg | (simp; omega)) ?_
       intro ci w2 bv bx
       have b6:∀k,Value.ownBlock bs=some k->h<=k:=λk bt=>(am.base k bt)
       have b7:Ad w1 w2 (λk=>Value.ownBlock bs=some k):=by first|exact Ad.aC bx|exact(Ad.alloc w1 _).trans (Ad.aC bx) (λ_ _ e=>e.elim) (λ_ _ e=>e)
       have a9:Ad w w2 (λ_=>False):=(cd.out.trans A (λ_ _ e=>e) (λ_ _ e=>e)).trans b7 (λ_ _ e=>e) (λb cx e=>by have:=b6 b e;have:=bl.out;omega)
       have cj:w2.cell? ⟨g,i,none⟩=some (.slice p n cap):=a9.cell ce.out (λe=>e)
       have cy:w2.frozen? ⟨g,i,none⟩=false:=(EN (a:=⟨g,i,none⟩) (a9.block g bc (λe=>e))).trans cf.out
       have cl:=U (bv.dC (by have:=bb.out;simp;omega))
       obtain⟨C,F,a',rfl⟩:∃C F a',ci=.slice C a' F:=by obtain⟨C,F,e,_⟩:=bv.ap;exact⟨C,F,_,e⟩))
  all_goals
   have cm:=U ((Cr.store w2 g i (.slice C a' F) _ cj).behind a9 (λ_ _ e=>e) bc);have b8:=U (cl.out.keeps (Ad.store w2 g i (.slice C a' F)) (λk _ e q=>by have:=bl.out;omega));clear bv bx b7 a9 am m A b6;go_wp2;go_end0;rw[be.out];refine⟨rfl,_,cm.out,b8.out.1,.inr λb ff n c e=>?_⟩;have:=b8.out.2 b ff n c e;have:=bl.out;omega
 ·have be:Hid (Ct L (f,t,v) z=L):=by unfold Hid Ct;rw[V b3]
  have b0:=(Al w.heap.size w).alloc (Ac _) (.cells #[.int .i64 f,.int .i64 t,.int .i64 v] 66);have co:=U (Cr.same w g i _ G b0);have cp:=U (bd.out.below b0);clear b0;go_enter func34,ntmps34;go_wp2;go_end0;rw[be.out];exact⟨rfl,_,co.out,⟨p,cap,by rw[bb.out],cp.out,Aig⟩,.inl rfl⟩
theorem MY{w w':World}{R:Nat->Prop}{b ff:Nat}{l:List Int}(h:Aq w (some ⟨b,ff,none⟩) l)(c:Ad w w' R)(m:¬R b):Aq w' (some ⟨b,ff,none⟩) l:=by
 intro k q;obtain⟨A,C,e,s⟩:=h k q;cases e;exact⟨b,ff,rfl,c.cell s m⟩
theorem XJ(w:World):Calls prog 31 #[] w λe w'=>e=.returned (.slice (some ⟨w.heap.size,0,none⟩) 28 28)/\Aq w' (some ⟨w.heap.size,0,none⟩) DP/\w.heap.size<w'.heap.size/\Below w.heap.size w w':=by
 go_enter func31,ntmps31;go_wp2;go_ret;refine⟨rfl,?_,J,(Al _ _).alloc (Ac _) _⟩;exact CQ w _ DP _ rfl
structure Cq (w1 w:World) (gs g sb pb:Nat) (f:Nat->Value) (v8 v5:Value) (Q:List Mq) (S:List Sp) (sc:Nat) (sl r:List Int):Prop where
 src:Bd w gs r
 box:BI w g (AD (AD f 8 v8) 5 v5)
 aw:Fh w w1.heap.size (λb=>w1.heap.size<=b/\v8.ownBlock≠some b) v8 Q
 sp:FK w (λb=>w1.heap.size<=b/\v8.ownBlock≠some b) v5 S
 st:w.ownsRow 0 3 1 (.slice (some ⟨sb,0,none⟩) 28 sc) 28 (sl.map (.int .i64))
 aN:Aq w (some ⟨pb,0,none⟩) DP
 ar:Ad w1 w (λb=>b=gs\/b=g\/b=sb)
 ord:(gs<g/\g<w1.heap.size/\sb<w1.heap.size/\sb≠g/\gs<sb)/\(pb<w1.heap.size/\pb≠gs/\pb≠g/\pb≠sb)
section
variable {w1 w w2 w':World} {gs g sb pb sc:Nat} {f:Nat->Value} {v8 v5:Value} {Q:List Mq} {S:List Sp} {sl r r':List Int}
theorem Cq.size(h:Cq w1 w gs g sb pb f v8 v5 Q S sc sl r):w1.heap.size<=w.heap.size:=h.ar.size
theorem Cq.own(h:Cq w1 w gs g sb pb f v8 v5 Q S sc sl r):∀b,v8.ownBlock=some b->w1.heap.size<=b/\b<w.heap.size:=λb c=>Bs h.aw.own b c
theorem Cq.step(h:Cq w1 w gs g sb pb f v8 v5 Q S sc sl r)(c:Ad w w' (λb=>b=gs))(k:Bd w' gs r'):Cq w1 w' gs g sb pb f v8 v5 Q S sc sl r':=by
 obtain⟨⟨s,A,C,F,G⟩,⟨L,m,ac,am⟩⟩:=h.ord;have ea:=h.own;exact⟨k,h.box.keeps c O,h.aw.keeps c (λb ad e=>Zo) (λb ad e q=>O),h.sp.keeps c (λb ad e q=>O),c.owns h.st (λb ad e=>Ahp),MY h.aN c m,h.ar.trans c (λ_ _ e=>e) (λ_ _ e=>.inl e),h.ord⟩
theorem Cq.below(h:Cq w1 w gs g sb pb f v8 v5 Q S sc sl r)(c:Below w.heap.size w w'):Cq w1 w' gs g sb pb f v8 v5 Q S sc sl r:=
 h.step ((Ad.av c).aq (λb c e=>O)) (h.src.below c)
theorem Cq.start(h:Bd w gs r)(c:BI w g f)(k:f 8=.slice none 0 0)(m:f 5=.slice none 0 0)(e:w.ownsRow 0 3 1 (.slice (some ⟨sb,0,none⟩) 28 sc) 28 (sl.map (.int .i64)))(q:Aq w (some ⟨pb,0,none⟩) DP)(b:gs<g/\sb≠g/\gs<sb)(s:pb<w.heap.size/\pb≠gs/\pb≠g/\pb≠sb):Cq w w gs g sb pb f (.slice none 0 0) (.slice none 0 0) [] [] sc sl r:=
 ⟨h,by rw[Rm _ _ _ k,Rm _ _ _ m];exact c,Fh.nil _ _ _,FK.nil _ _,e,q,Ad.refl _ _,⟨⟨b.1,c.lt,(Bs e sb rfl).2,b.2.1,b.2.2⟩,s⟩⟩
theorem Cq.dw(h:Cq w1 w gs g sb pb f v8 v5 Q S sc sl r)(k:Nat):Cq w1 (w.setCell ⟨sb,k,none⟩ (.int .i64 3)) gs g sb pb f v8 v5 Q S sc (sl.set k 3) r:=by
 obtain⟨⟨s,A,C,F,G⟩,⟨L,ac,am,m⟩⟩:=h.ord;have ea:=h.own;have c:=Ad.store w sb k (.int .i64 3);have a9:=h.size;have a':=h.st.1;refine⟨h.src.keeps c (λb ad e=>?_),h.box.keeps c O,h.aw.keeps c (λb ad e=>Zo) (λb ad e q=>O),h.sp.keeps c (λb ad e q=>O),?_,MY h.aN c m,h.ar.trans c (λ_ _ e=>e) (λ_ _ e=>.inr (.inr e)),h.ord⟩
 ·omega
 ·have:=(PE (g:=sb) h.st k (.int .i64 3)).1;rwa[<-KV]at this
theorem Cq.cP{v:Value}{L:List Sp}(h:Cq w1 w gs g sb pb f v8 v5 Q S sc sl r)(q:Cr w w' g 5 v)(s:Cw w' v L)(m:v=v5\/∀b ff n c,v=.slice (some ⟨b,ff,none⟩) n c->w.heap.size<=b/\b<w'.heap.size):Cq w1 w' gs g sb pb f v8 v Q L sc sl r:=by
 obtain⟨⟨F,G,ac,am,a9⟩,⟨a',ba,A,bb⟩⟩:=h.ord;have ea:=h.own;have bc:=h.size;have k:=q.ar;refine⟨h.src.keeps k (λb ad e=>O),?_,h.aw.keeps k (λb ad e=>Zo) (λb ad e be=>O),⟨s,?_⟩,k.owns h.st (λb ad e=>Ahp),MY h.aN k A,h.ar.trans k (λ_ _ e=>e) (λ_ _ e=>.inr (.inl e)),h.ord⟩
 ·have:=h.box.aA q;rwa[Ro]at this
 ·intro b ff n c e;rcases m with m|m
  ·subst m;have:=h.sp.2 b ff n c e;exact⟨this.1,Ci this.2 k.size⟩
  ·have:=m b ff n c e;exact⟨⟨O,λC=>by have:=ea b C;omega⟩,this.2⟩
theorem Cq.bg{v:Value}{q:Mq}(h:Cq w1 w gs g sb pb f v8 v5 Q S sc sl r)(dO:CU w (λb=>w1.heap.size<=b/\v8.ownBlock≠some b) q.2 q.1.2)(G:w'.ownsRow w1.heap.size 73 2 v (Q++[q]).length (CV (Q++[q])))(L:w2.grownBy w' v8.ownBlock)(dH:v.ownBlock=v8.ownBlock\/v.ownBlock=some w2.heap.size)(ad:Below w.heap.size w w2):Cq w1 (w'.setCell ⟨g,8,none⟩ v) gs g sb pb f v v5 (Q++[q]) S sc sl r/\w'.cell? ⟨g,8,none⟩=some v8/\w'.frozen? ⟨g,8,none⟩=false:=by
 obtain⟨⟨bb,bc,bd,bl,bs⟩,⟨ac,bt,am,bv⟩⟩:=h.ord;have b0:=ad.size;have b1:=h.size;have ea:=h.own;have m:Ad w w' (λb=>v8.ownBlock=some b):=(Ad.av ad).trans (Ad.aC L) (λb ad e=>O) (λ_ _ e=>e);have s:=Ad.store w' g 8 v;have cv:Ad w (w'.setCell ⟨g,8,none⟩ v) (λb=>v8.ownBlock=some b\/b=g):=m.trans s (λ_ _ e=>.inl e) (λ_ _ e=>.inr e);have A:¬v8.ownBlock=some g:=λe=>by have:=ea g e;omega
 have c:=h.box.keeps m A;have iT:∀b,b<w.heap.size->v8.ownBlock≠some b->v.ownBlock≠some b:=UT;have a9:v.ownBlock≠some g:=iT g O A;have C:w'.cell? ⟨g,8,none⟩=some v8:=by have:=(c 8 O).1;rwa[EI _ _ O,EJ]at this
 have k:∀b,b<w1.heap.size->b≠g->¬(v8.ownBlock=some b\/b=g):=Axl;have fM:∀u l,CU w (λb=>w1.heap.size<=b/\v8.ownBlock≠some b) u l->CU (w'.setCell ⟨g,8,none⟩ v) (λb=>w1.heap.size<=b/\v.ownBlock≠some b) u l:=by
  intro u l ba;have a':=ba.aq (Q:=λb=>(w1.heap.size<=b/\v8.ownBlock≠some b)/\b<w.heap.size) (λb ad e=>⟨e,ad⟩);exact AiX
 refine⟨⟨h.src.keeps cv (λb ad e=>k b O O e),?_,⟨s.owns G (λb ad e=>a9 (by rw[ad,e])),?_⟩,?_,cv.owns h.st (λb ad e=>by have F:some sb=some b:=ad;injection F with F;exact k b O O e),MY h.aN cv (k pb ac am),h.ar.trans cv (λ_ _ e=>e) (λb ad e=>?_),h.ord⟩,C,(c 8 O).2⟩
 ·have:=c.aA (Cr.store w' g 8 v _ C);rwa[Uu f 8 5 v8 v5 O,Ro,Uu f 5 8 v5 v O]at this
 ·exact Ajr
 ·have a':=h.sp.aq (Q:=λb=>(w1.heap.size<=b/\v8.ownBlock≠some b)/\b<w.heap.size) (λb ad e=>⟨e,ad⟩);exact AiX
 ·rcases e with e|e
  ·have:=ea b e;omega
  ·exact .inr (.inl e)
end
end Go.Proofs.YtblcoicaeeiojaaGreatDoor
namespace Go.Proofs.YtblcoicaeeiojaaGreatDoor
open Go.RowKit
theorem Arp:∀k,k<28->DP.getD k 0=Bn k:=by decide +kernel
theorem Ae1:DP.length=28:=Aw
def Iu(u:Int):Prop:=u=0\/u=1\/u=2\/u=4
theorem Cq.bH{w1 w:World}{gs g sb pb sc:Nat}{f:Nat->Value}{v8 v5:Value}{Q:List Mq}{S:List Sp}{sl r:List Int}(h:Cq w1 w gs g sb pb f v8 v5 Q S sc sl r)(k:Nat)(ba:k<28):w.cell? ⟨pb,k,none⟩=some (.int .i64 (Bn k)):=Awb
theorem Cq.len{w1 w:World}{gs g sb pb sc:Nat}{f:Nat->Value}{v8 v5:Value}{Q:List Mq}{S:List Sp}{sl r:List Int}(h:Cq w1 w gs g sb pb f v8 v5 Q S sc sl r):sl.length=28:=by
 have:=h.st.1;exact GG
theorem Cq.cellS{w1 w:World}{gs g sb pb sc:Nat}{f:Nat->Value}{v8 v5:Value}{Q:List Mq}{S:List Sp}{sl r:List Int}(h:Cq w1 w gs g sb pb f v8 v5 Q S sc sl r)(k:Nat)(C:k<28):w.cell? ⟨sb,k,none⟩=some (.int .i64 (sl.getD k 0))/\w.frozen? ⟨sb,k,none⟩=false:=by
 have m:=h.len;have q:Ak w 0 (.slice (some ⟨sb,0,none⟩) 28 sc) sl:=by
  unfold Ak;rw[m];exact h.st
 obtain⟨p,c,e,s⟩:=q.ap;injection e with e _ _;subst e;obtain⟨b,ff,e,A⟩:=s k O;cases e;exact⟨by simpa using A,MO (g:=sb) h.st k⟩
def P0(k:Nat)(Q b:List Mq)(sl c:List Int):Prop:=(b=Q/\c=sl)\/∃tl u,b=Q++[((Bn k,tl),u)]/\c=sl.set k 3/\Lt tl
theorem P0.ok{k:Nat}{Q s:List Mq}{sl c:List Int}{S:List Sp}(h:P0 k Q s sl c)(b:k<28)(C:sl.length=28)(A:Gj k (Q.map (·.1)) S)(m:∀i,k<=i->i<28->Iu (sl.getD i 0)):Gj (k+1) (s.map (·.1)) (Ct S (Bn k,Bn k,0) (c.getD k 0))/\∀i,k+1<=i->i<28->Iu (c.getD i 0):=by
 rcases h with⟨rfl,rfl⟩|⟨tl,u,rfl,rfl,F⟩
 ·have:=m k (Ac _) b;unfold Iu at this;exact⟨A.plain b O O 0,λi G q=>m i O q⟩
 ·constructor
  ·have e:(sl.set k 3).getD k 0=3:=by simp[List.getD,C,b]
   rw[e,FY];exact A.more b F 0
  ·intro i G q;have e:(sl.set k 3).getD i 0=sl.getD i 0:=by
    simp only[Cz];rw[LY O]
   rw[e];exact m i O q
def AaH(gs g sb:Nat)(f:Nat->Value)(w:World)(e:Ending)(w':World):Prop:=
 e=.returned (.tuple #[])/\∃r v8 v5 M S,Gj 28 M S/\Bd w' gs r/\BI w' g (AD (AD f 8 v8) 5 v5)/\Di w' (λb=>w.heap.size<=b) v8 M/\FK w' (λb=>w.heap.size<=b) v5 S/\Ad w w' (λb=>b=gs\/b=g\/b=sb)
theorem Cq.done{w w1 w2:World}{gs g sb pb sc:Nat}{f:Nat->Value}{v8 v5:Value}{Q:List Mq}{S:List Sp}{sl r:List Int}(c:Below w.heap.size w w1)(h:Cq w1 w2 gs g sb pb f v8 v5 Q S sc sl r)(k:Gj 28 (Q.map (·.1)) S):AaH gs g sb f w (.returned (.tuple #[])) w2:=by
 have a':=k.len;have m:=c.size;refine⟨rfl,r,v8,v5,_,S,k,h.src,h.box,h.aw.bK Aif (λb _ c=>by have:=c.1;omega) (λb c _=>O),h.sp.aq (λb _ c=>by have:=c.1;omega),(Ad.av c).trans h.ar (λb c e=>O) (λ_ _ e=>e)⟩
theorem Apw(gs g sb sc:Nat)(f:Nat->Value)(sl cf:List Int)(w:World)(b5:Bd w gs cf)(bs:BI w g f)(cg:f 8=.slice none 0 0)(ci:f 5=.slice none 0 0)(b6:w.ownsRow 0 3 1 (.slice (some ⟨sb,0,none⟩) 28 sc) 28 (sl.map (.int .i64)))(cj:∀i,i<28->Iu (sl.getD i 0))(cl:gs<g/\sb≠g/\gs<sb):Calls prog 36 #[.pointer (some ⟨gs,0,none⟩),.pointer (some ⟨g,0,none⟩),.slice (some ⟨sb,0,none⟩) 28 sc] w (AaH gs g sb f w):=by
 have d6:=b5.lt;have d7:=bs.lt;have d8:=(Bs b6 sb rfl).2;have cm:=U b5;have co:=U bs;have cp:=U cg;have cq:=U ci;have m:=U b6;have cr:Hid (∀i,0<=i->i<28->Iu (sl.getD i 0)):=λi _ h=>cj i h;have dH:=U cl;clear b5 bs cg ci b6 cj cl;go_enter func36,ntmps36;go_wp2_with fail;refine(XJ _).mono ?_;rintro e w1 ⟨rfl,cs,ac,ad⟩;have dJ:=U ad;have ct:=U (Cq.start (sc:=sc) (pb:=w.heap.size) (cm.out.below ad) (co.out.below ad) cp.out cq.out (Kq m.out ad) cs dH.out ⟨ac,O,O,O⟩);clear cs ac ad cm co cp cq m;go_wp2;go_loopw[13] (λb7 wr=>∃(k:Nat) (v8 v5:Value) (Q:List Mq) (S:List Sp) (sl r:List Int),k<=28/\b7=.int .i64 k/\Hid (Cq w1 wr gs g sb w.heap.size f v8 v5 Q S sc sl r)/\Hid (Gj k (Q.map (·.1)) S)/\Hid (∀i,k<=i->i<28->Iu (sl.getD i 0))) (λb7 _=>28-(intOf b7).toNat)
 case atStart=>exact⟨0,_,_,_,_,sl,cf,O,rfl,ct,Gj.nil,cr⟩
 case round=>
  obtain⟨k,v8,v5,Q,S,sl,r,d9,rfl,eN,am,cu⟩:=hrel;clear ct cr;by_cases a9:k<28
  ·have d_:(k:Int)<28:=by omega
   have a':=eN.out.bH k a9;have dK:=U (XK k a9);have cv:Hid (∀C s,P0 k Q C sl s->Gj (k+1) (C.map (·.1)) (Ct S (Bn k,Bn k,0) (s.getD k 0))/\∀i,k+1<=i->i<28->Iu (s.getD i 0)):=λC s h=>h.ok a9 eN.out.len am.out cu.out;have cx:Hid (∀tl u,Lt tl->P0 k Q (Q++[((Bn k,tl),u)]) sl (sl.set k 3)):=λtl u h=>.inr ⟨tl,u,rfl,rfl,h⟩;have cy:Hid (Q.length<=1000/\S.length<=1000):=by
    have G:=am.out.len;have ba:=am.out.sp.len;rw[C6]at G;exact Hj
   generalize Bn k=c at a' dK cv cx;clear am cu;go_upto_region 4 with(fail);clear a';go_cut[32] (λb8 bb=>∃(B:Bool) (r':List Int),b8=.bool B/\Hid (Cq w1 bb gs g sb w.heap.size f v8 v5 Q S sc sl r'))
   case first=>
    by_cases G:c=128512
    ·have b9:(c==128512)=true:=by simp[G]
     clear G;exact Ahq
    ·have b9:(c==128512)=false:=by simp[G]
     clear G;by_cases ba:c=7684
     ·have dL:(c==7684)=true:=by simp[ba]
      clear ba;exact Ahq
     ·have dL:(c==7684)=false:=by simp[ba]
      clear ba;by_cases bt:c=947
      ·have dM:(c==947)=true:=by simp[bt]
       clear bt;obtain⟨y,bc⟩:∃y,AZ r 2=y:=⟨_,rfl⟩;have b':=U bc;clear bc;go_wp2_with fail;refine(Da gs r 2 y _ eN.out.src O O b').mono ?_;rintro e w3 ⟨rfl,cA,cB⟩;have dN:=U (eN.out.step (Fx cB) cA);clear cA cB;go_wp2_with fail;go_meet;exact⟨_,_,rfl,dN⟩
      ·have dM:(c==947)=false:=by simp[bt]
       clear bt;exact Ahq
   case rest=>
    obtain⟨B,r3,rfl,bd⟩:=hcut;clear eN;go_upto_if 32 with(fail);go_cut[9] (λ_ bb=>∃(cC:Value) (C:List Mq) (s r':List Int),Hid (Cq w1 bb gs g sb w.heap.size f cC v5 C S sc s r')/\Hid (P0 k Q C sl s))
    case first=>
     cases B with
     | false =>
      go_wp2_with fail;go_meet;exact⟨v8,Q,sl,r3,bd,.inl ⟨rfl,rfl⟩⟩
     | true =>
      obtain⟨q,ca⟩:∃q,AZ r3 3=q:=⟨_,rfl⟩;obtain⟨cD,cF⟩:=DO r3 3 O;rw[ca]at cD cF;have cI:=U ca;clear ca;obtain⟨F,cb⟩:∃F:World,F=wc:=⟨_,rfl⟩;have bv:Hid (Cq w1 F gs g sb w.heap.size f v8 v5 Q S sc sl r3):=by unfold Hid;rw[cb];exact bd.out
      have cO:Hid (Ad F wc (λb=>b=gs)):=by unfold Hid;rw[cb];exact Ad.refl _ _
      have dO:gs<F.heap.size:=bv.out.src.lt;have c2:=U bd.out.src;clear cb bd;go_wp2_with fail;refine(Da gs r3 3 q _ c2.out O O cI).mono ?_;rintro e w2 ⟨rfl,c3,c4⟩;have m:=U (Dh.new (fr:=c) (a:=97+q) (cO.out.trans (Fx c4) (λ_ _ e=>e) (λ_ _ e=>e)) c3 dO);have c5:Hid (Lt [97+q]):=⟨97+q,Ae,.inl rfl⟩;have c6:Hid (Lt [97+q,46]):=⟨97+q,Ae,.inr rfl⟩;clear c3 c4 cO c2;obtain⟨y,bc⟩:∃y,AZ r3.tail 2=y:=⟨_,rfl⟩;have b':=U bc;clear bc;go_upto_region 6 with(fail);generalize ((w2.alloc (.cells #[.int .i64 (97+q)] 3)).alloc (.cells #[.int .i64 c,.slice (some ⟨w2.heap.size,0,none⟩) 1 1] 73))=W at m|-;generalize w2.heap.size+1=mb at m|-;generalize w2.heap.size=tb at m|-;generalize 97+q=a at m c5 c6|-;clear cI cD cF;go_wp2_with fail;refine(Da gs r3.tail 2 y _ m.out.src O O b').mono ?_;rintro e c7 ⟨rfl,c8,c9⟩;have L:=U (m.out.step (Fx c9) c8);clear c8 c9 m;go_upto_if 41 with(fail);go_cut[9] (λv bb=>∃(u:Value) (tl r':List Int),v=.pointer (some ⟨mb,0,none⟩)/\Hid (Lt tl)/\Hid (Dh F.heap.size F bb gs mb c u tl r'))
      case first=>
       by_cases bx:y=0
       ·have b9:(y==0)=true:=by simp[bx]
        have a':=L.out.c1;have d':∀o,(c7.alloc o).cell? ⟨mb,1,none⟩=some (.slice (some ⟨tb,0,none⟩) 1 1):=λo=>(Ad.alloc c7 o).cell a' (λe=>e);have dP:=U (L.out.own.alloc (.cells #[.int .i64 46] 3));clear bx;go_wp2_with (at_builtin;refine Ag' _ _ rfl rfl F.heap.size (.slice (some ⟨tb,0,none⟩) 1 1) [a] (by rfl) (by exact dP.out) _ 1 46 (by rfl) EL J (by have:=L.out.ar.size;simp;omega) ?_;intro v6 w6 c' b0 dQ;obtain⟨ea,eb,ec,rfl⟩:=T9 c';have cc:=U (AcN L.out c' b0 dQ ((Al _ _).alloc (Ac _) _));have ed:w6.cell? ⟨mb,1,none⟩=some (.slice (some ⟨tb,0,none⟩) 1 1):=cc.out.2.1;have ee:w6.frozen? ⟨mb,1,none⟩=false:=cc.out.2.2);go_meet;exact⟨_,[a]++[46],_,rfl,c6,cc.out.1⟩
       ·have b9:(y==0)=false:=by simp[bx]
        clear bx;go_wp2_with fail;go_meet;exact⟨_,[a],_,rfl,c5,L⟩
      case rest=>
       obtain⟨u,tl,r5,rfl,da,b1⟩:=hcut;clear L;obtain⟨db,dc,dR,_⟩:=b1.out.own.ap;subst dR;obtain⟨z,ac⟩:∃z,AZ r5 3=z:=⟨_,rfl⟩;have dS:=U ac;clear ac;go_wp2_with fail;refine(Da gs r5 3 z _ b1.out.src O O dS).mono ?_;rintro e w6 ⟨rfl,df,b0⟩;have be:=U (b1.out.step (Fx b0) df);have bl:=U (bv.out.step be.out.ar be.out.src);clear df b0 b1;by_cases ef:0<z
       ·have dj:tl.length<=1000:=by have:=da.out.facts.2.1;omega
        have eg:=be.out.c0;have a':=be.out.c1;have dT:w6.cell? ⟨g,8,none⟩=some v8:=by have:=(bl.out.box 8 O).1;rwa[EI _ _ O,EJ]at this
        have eh:∀o,(w6.alloc o).cell? ⟨g,8,none⟩=some v8:=λo=>(Ad.alloc w6 o).cell dT (λe=>e);have dU:=U (CG bl.out.aw.own (.cells #[.int .i64 c,.slice db tl.length dc] 73));have dV:=U ((be.out.bB dj).aq (Q:=λb=>w1.heap.size<=b/\v8.ownBlock≠some b) (λb _ bs=>⟨by have:=bv.out.size;omega,λe=>by have:=(bv.out.own b e).2;omega⟩));have dW:Hid (Q.length<=1000):=cy.out.1;clear dj;go_upto_region 9 with(fail);go_region_law
         (refine Yf (by rfl) _ _ (by rfl) w1.heap.size v8 Q (by rfl) (by exact dU.out) _ 1 ((c,tl),.slice db tl.length dc) (by rfl) EL EL rfl dW.out (by have:=bl.out.size;simp;omega) ?_
          intro v9 ei cd dk dm
          obtain⟨p9,n9,q9,rfl⟩:=T9 cd
          have b2:=U (bl.out.bg dV.out cd dk dm ((Al w6.heap.size w6).alloc (Ac _) _).drew)
          have dX:=b2.out.2.1
          have dY:=b2.out.2.2)
        all_goals
         have dn:=U b2.out.1;obtain⟨dq,ds⟩:=dn.out.cellS k a9;clear cd dk dm b2 dX dY;go_wp2_with fail;go_meet;exact⟨_,_,_,_,dn.out.dw k,cx.out _ _ da.out⟩
       ·go_wp2_with fail;go_meet;exact⟨v8,Q,sl,_,bl,.inl ⟨rfl,rfl⟩⟩
    case rest=>
     obtain⟨cC,C,s,r4,b3,dx⟩:=hcut;clear bd;have ce:=cv.out C s dx.out;have dy:=U ce.1;have dZ:=U ce.2;obtain⟨dq,ds⟩:=b3.out.cellS k a9;obtain⟨d0,dz⟩:∃x,s.getD k 0=x:=⟨_,rfl⟩;rw[dz]at dq dy;obtain⟨d1,b8,d2,dE,_⟩:=b3.out.sp.1;subst d2;have b4:=b3.out.box 5 O;rw[EJ]at b4;have d3:=U (AaP g 5 d1 S.length b8 S (c,c,0) d0 wc.drew b4.1 b4.2 dE rfl cy.out.2);clear ce dx dz b4 dE ds;go_upto_region 11 with(fail);go_region_law
      (go_simp
       go_at_call 34
       refine d3.out.mono ?_
       rintro e d4 ⟨rfl,v,A,dF,dG⟩
       have d5:=U (b3.out.cP (w':=d4) ⟨A.cell,⟨A.ar.os,A.ar.tape,A.ar.output,A.ar.size,A.ar.block⟩,A.bu,A.rest⟩ dF dG))
     all_goals
      clear A dF dG;go_wp2;go_roundw
      case rel=>exact⟨k+1,_,_,_,_,_,_,O,An,d5,dy,dZ⟩
      case measure=>simp[intOf];omega
  ·obtain rfl:k=28:=by omega
   go_wp2;go_end0;exact Cq.done dJ.out eN.out am.out
theorem AfO(x:TV)(I:List Sp)(c:Int)(B:Bool)(w:World)(h:Cw w x.a6 I)(dH:DB 1 1 I=true)(C:Hid ((val I c).isSome=B)):Calls prog 65 #[x.agg,.int .i64 c] w (Ar (.bool B) w):=by
 have b:=(Al w.heap.size w).alloc (Ac _) (.cells (AG x) 26);have m:=U b;have F:=U (h.below b);have k:=(AS.new w x 26).2.1;obtain⟨z,q⟩:∃z,Hid ((val I c).getD 0=z):=⟨_,rfl⟩;have G:Hid ((z==1)=B):=by
  unfold Hid;rw[<-q.out,<-C.out];cases lX:val I c with
  | none=>rfl
  | some v =>
   exact AyL
 clear h dH b;simp only[TV.agg];go_enter func65,ntmps65;go_wp2_with fail;refine(Mx x.a6 I c z _ F.out q).mono ?_;rintro e w1 ⟨rfl,A⟩;have L:=U (m.out.trans (A.mono m.out.size));clear A k;go_wp2;go_ret;exact⟨by rw[G.out];rfl,L.out⟩
structure Eh (wE w0 w:World) (gs g lb:Nat) (f:Nat->Value) (v11:Value) (Q:List Mq) (I:List Sp) (r:List Int):Prop where
 src:Bd w gs r
 box:BI w g (AD f 11 v11)
 aw:Fh w w0.heap.size (λb=>wE.heap.size<=b/\v11.ownBlock≠some b) v11 Q
 lits:Di w (λb=>wE.heap.size<=b/\b<w0.heap.size) (.slice (some ⟨lb,0,none⟩) 5 5) GY
 ig:FK w (λb=>b<wE.heap.size/\b≠gs/\b≠g) (f 6) I
 ar:Ad w0 w (λb=>b=gs\/b=g)
 ord:gs<g/\g<wE.heap.size/\wE.heap.size<=w0.heap.size
section
variable {wE w0 w w1 w':World} {gs g lb:Nat} {f:Nat->Value} {v11:Value} {Q:List Mq} {I:List Sp} {r r':List Int}
theorem Eh.size(h:Eh wE w0 w gs g lb f v11 Q I r):w0.heap.size<=w.heap.size:=h.ar.size
theorem Eh.own(h:Eh wE w0 w gs g lb f v11 Q I r):∀b,v11.ownBlock=some b->w0.heap.size<=b/\b<w.heap.size:=λb c=>Bs h.aw.own b c
theorem Eh.step(h:Eh wE w0 w gs g lb f v11 Q I r)(c:Ad w w' (λb=>b=gs))(m:Bd w' gs r'):Eh wE w0 w' gs g lb f v11 Q I r':=by
 obtain⟨q,s,A⟩:=h.ord;have ea:=h.own;exact⟨m,h.box.keeps c O,h.aw.keeps c (λb ad e=>Zo) (λb ad e k=>O),h.lits.keeps c (λb ad e k=>O),h.ig.keeps c (λb ad e k=>k.2.1 e),h.ar.trans c (λ_ _ e=>e) (λ_ _ e=>.inl e),h.ord⟩
theorem Eh.below(h:Eh wE w0 w gs g lb f v11 Q I r)(c:Below w.heap.size w w'):Eh wE w0 w' gs g lb f v11 Q I r:=
 h.step ((Ad.av c).aq (λb c e=>O)) (h.src.below c)
theorem Eh.bg{v:Value}{q:Mq}(h:Eh wE w0 w gs g lb f v11 Q I r)(dO:CU w (λb=>wE.heap.size<=b/\v11.ownBlock≠some b) q.2 q.1.2)(F:w'.ownsRow w0.heap.size 73 2 v (Q++[q]).length (CV (Q++[q])))(G:w1.grownBy w' v11.ownBlock)(dH:v.ownBlock=v11.ownBlock\/v.ownBlock=some w1.heap.size)(ad:Below w.heap.size w w1):Eh wE w0 (w'.setCell ⟨g,11,none⟩ v) gs g lb f v (Q++[q]) I r/\w'.cell? ⟨g,11,none⟩=some v11/\w'.frozen? ⟨g,11,none⟩=false:=by
 obtain⟨am,a9,ba⟩:=h.ord;have bb:=ad.size;have bc:=h.size;have ea:=h.own;have m:Ad w w' (λb=>v11.ownBlock=some b):=(Ad.av ad).trans (Ad.aC G) (λb ad e=>O) (λ_ _ e=>e);have s:=Ad.store w' g 11 v;have cv:Ad w (w'.setCell ⟨g,11,none⟩ v) (λb=>v11.ownBlock=some b\/b=g):=m.trans s (λ_ _ e=>.inl e) (λ_ _ e=>.inr e);have A:¬v11.ownBlock=some g:=λe=>by have:=ea g e;omega
 have c:=h.box.keeps m A;have iT:∀b,b<w.heap.size->v11.ownBlock≠some b->v.ownBlock≠some b:=UT;have L:v.ownBlock≠some g:=iT g O A;have C:w'.cell? ⟨g,11,none⟩=some v11:=by have:=(c 11 O).1;rwa[EJ]at this
 have k:∀b,b<w0.heap.size->b≠g->¬(v11.ownBlock=some b\/b=g):=Axl;have fM:∀u l,CU w (λb=>wE.heap.size<=b/\v11.ownBlock≠some b) u l->CU (w'.setCell ⟨g,11,none⟩ v) (λb=>wE.heap.size<=b/\v.ownBlock≠some b) u l:=by
  intro u l ac;have a':=ac.aq (Q:=λb=>(wE.heap.size<=b/\v11.ownBlock≠some b)/\b<w.heap.size) (λb ad e=>⟨e,ad⟩);exact AiX
 refine⟨⟨h.src.keeps cv (λb ad e=>k b O O e),?_,⟨s.owns F (λb ad e=>L (by rw[ad,e])),?_⟩,h.lits.keeps cv (λb ad e i8=>k b i8.2 (by have:=i8.1;omega) e),h.ig.keeps cv (λb ad e i8=>k b (by have:=i8.1;omega) i8.2.2 e),h.ar.trans cv (λ_ _ e=>e) (λb ad e=>?_),h.ord⟩,C,(c 11 O).2⟩
 ·have:=c.aA (Cr.store w' g 11 v _ C);rwa[Ro]at this
 ·exact Ajr
 ·rcases e with e|e
  ·have:=ea b e;omega
  ·exact .inr e
theorem Eh.lit(h:Eh wE w0 w gs g lb f v11 Q I r)(k:Nat)(a9:k<5):∃ub A m F C q,GY.getD k (0,[])=(C,q)/\q.length=m+1/\q.getLastD 0=q.getD m 0/\w.cell? ⟨lb,k*2,none⟩=some (.int .i64 C)/\w.cell? ⟨lb,k*2+1,none⟩=some (.slice (some ⟨ub,A,none⟩) (m+1) F)/\Aq w (some ⟨ub,A,none⟩) q/\wE.heap.size<=ub/\ub<w0.heap.size:=by
 obtain⟨p,c,e,_,_,ba⟩:=h.lits;obtain⟨b,ff,u,bb,a',G,⟨bd,F,rfl,L,_⟩,ac⟩:=ba k a9;cases bb;cases e;obtain⟨⟨C,q⟩,ad⟩:∃s,GY.getD k Ay=s:=⟨_,rfl⟩;rw[ad]at a' G L ac;have bc:q≠[]:=by
  have:=(QO _ (XO k a9).1).2.2.1;intro e;rw[show GY.getD k (0,[])=(C,q)from ad,e]at this;simp at this
 obtain⟨m,am⟩:∃m,q.length=m+1:=⟨q.length-1,by have:=KT.2 bc;omega⟩;obtain⟨ub,A,rfl,_⟩:=L 0 MI;simp only[am]at G ac;have:=ac ub A _ _ rfl;refine⟨ub,A,m,F,C,q,ad,am,?_,by simpa using a',by simpa using G,L,this.1.1,this.1.2⟩;rw[Aao,Ajt,am];rfl
end
abbrev WT(w:World):World:=
 ((((w.alloc (.cells #[.int .i64 111] 3)).alloc (.cells #[.int .i64 114,.int .i64 110] 3)).alloc (.cells #[.int .i64 97] 3)).alloc (.cells #[.int .i64 97] 3)).alloc (.cells #[.int .i64 111,.int .i64 803] 3)
abbrev WU(w:World):Array Value:=#[.int .i64 48,.slice (some ⟨w.heap.size,0,none⟩) 1 1,.int .i64 109,.slice (some ⟨w.heap.size+1,0,none⟩) 2 2,.int .i64 945,.slice (some ⟨w.heap.size+2,0,none⟩) 1 1,.int .i64 1072,.slice (some ⟨w.heap.size+3,0,none⟩) 1 1,.int .i64 1632,.slice (some ⟨w.heap.size+4,0,none⟩) 2 2]
abbrev Hr(w:World):World:=(WT w).alloc (.cells (WU w) 73)
theorem AoW(w:World):(WT w).heap.size=w.heap.size+5:=J
theorem Ao0(w:World):(Hr w).heap.size=w.heap.size+6:=J
theorem AoX(w:World):Below w.heap.size w (Hr w):=
 ((((((Al _ _).alloc (Ac _) _).alloc J _).alloc Ae _).alloc Ae _).alloc Ae _).alloc Ae _
theorem Kl(w:World)(j:Nat):(Hr w).cell? ⟨w.heap.size+5,j,none⟩=(WU w)[j]? := by
 rw[<-AoW w];simp only[World.cell?];rw[IC];rfl
theorem Qw{w w':World}{b:Nat}{l:List Int}{n:Nat}(h:Aq w (some ⟨b,0,none⟩) l)(c:b=n)(e:Below w.heap.size w w'):Aq w' (some ⟨n,0,none⟩) l:=by subst c;exact h.below e
theorem AoZ(w:World):Aq (Hr w) (some ⟨w.heap.size,0,none⟩) [111]/\Aq (Hr w) (some ⟨w.heap.size+1,0,none⟩) [114,110]/\Aq (Hr w) (some ⟨w.heap.size+2,0,none⟩) [97]/\Aq (Hr w) (some ⟨w.heap.size+3,0,none⟩) [97]/\Aq (Hr w) (some ⟨w.heap.size+4,0,none⟩) [111,803]:=by
 refine⟨?_,?_,?_,?_,?_⟩
 ·exact Qw (CQ w #[.int .i64 111] [111] 3 rfl) rfl ((((((Al _ _).alloc (Ac _) _).alloc J _).alloc H' _).alloc H' _).alloc H' _)
 ·exact Qw (CQ (w.alloc (.cells #[.int .i64 111] 3)) #[.int .i64 114,.int .i64 110] [114,110] 3 rfl) J (((((Al _ _).alloc (Ac _) _).alloc J _).alloc H' _).alloc H' _)
 ·exact Qw (CQ ((w.alloc (.cells #[.int .i64 111] 3)).alloc (.cells #[.int .i64 114,.int .i64 110] 3)) #[.int .i64 97] [97] 3 rfl) J ((((Al _ _).alloc (Ac _) _).alloc J _).alloc H' _)
 ·exact Qw (CQ (((w.alloc (.cells #[.int .i64 111] 3)).alloc (.cells #[.int .i64 114,.int .i64 110] 3)).alloc (.cells #[.int .i64 97] 3)) #[.int .i64 97] [97] 3 rfl) J (((Al _ _).alloc (Ac _) _).alloc J _)
 ·exact Qw (CQ ((((w.alloc (.cells #[.int .i64 111] 3)).alloc (.cells #[.int .i64 114,.int .i64 110] 3)).alloc (.cells #[.int .i64 97] 3)).alloc (.cells #[.int .i64 97] 3)) #[.int .i64 111,.int .i64 803] [111,803] 3 rfl) J ((Al _ _).alloc (Ac _) _)
theorem AoY(w:World):Di (Hr w) (λb=>w.heap.size<=b/\b<(Hr w).heap.size) (.slice (some ⟨w.heap.size+5,0,none⟩) 5 5) GY:=by
 have F:=Ao0 w;obtain⟨h,m,q,s,A⟩:=AoZ w;refine⟨_,_,rfl,λb ff n c e=>Pp,Aw,λk C=>?_⟩;have G:k<5:=C;have:k=0\/k=1\/k=2\/k=3\/k=4:=O;rcases this with rfl|rfl|rfl|rfl|rfl
 ·exact⟨_,_,_,rfl,(Kl w 0).trans rfl,(Kl w 1).trans rfl,⟨_,_,rfl,h,Aw⟩,λb ff n c e=>Pp⟩
 ·exact⟨_,_,_,rfl,(Kl w 2).trans rfl,(Kl w 3).trans rfl,⟨_,_,rfl,m,Aw⟩,λb ff n c e=>Pp⟩
 ·exact⟨_,_,_,rfl,(Kl w 4).trans rfl,(Kl w 5).trans rfl,⟨_,_,rfl,q,Aw⟩,λb ff n c e=>Pp⟩
 ·exact⟨_,_,_,rfl,(Kl w 6).trans rfl,(Kl w 7).trans rfl,⟨_,_,rfl,s,Aw⟩,λb ff n c e=>Pp⟩
 ·exact⟨_,_,_,rfl,(Kl w 8).trans rfl,(Kl w 9).trans rfl,⟨_,_,rfl,A,Aw⟩,λb ff n c e=>Pp⟩
end Go.Proofs.YtblcoicaeeiojaaGreatDoor
namespace Go.Proofs.YtblcoicaeeiojaaGreatDoor
open Go.RowKit
def AaJ(gs g:Nat)(f:Nat->Value)(I:List Sp)(w:World)(e:Ending)(w':World):Prop:=
 e=.returned (.tuple #[])/\∃r v11 P,GQ 5 I P/\Bd w' gs r/\BI w' g (AD f 11 v11)/\Di w' (λb=>w.heap.size<=b) v11 P/\Ad w w' (λb=>b=gs\/b=g)
theorem Eh.done{w w1 w2:World}{gs g lb:Nat}{f:Nat->Value}{v11:Value}{Q:List Mq}{I:List Sp}{r:List Int}(c:Below w.heap.size w w1)(h:Eh w w1 w2 gs g lb f v11 Q I r)(k:GQ 5 I (Q.map (·.1))):AaJ gs g f I w (.returned (.tuple #[])) w2:=by
 have a':=k.len;have m:=c.size;refine⟨rfl,r,v11,_,k,h.src,h.box,h.aw.bK Aif (λb _ c=>c.1) (λb c _=>O),(Ad.av c).trans h.ar (λb c e=>O) (λ_ _ e=>e)⟩
theorem Eh.x{w w1 w2:World}{gs g lb:Nat}{f:Nat->Value}{v11:Value}{Q:List Mq}{I:List Sp}{r:List Int}{x:TV}(h:Eh w w1 w2 gs g lb f v11 Q I r)(b:I1 (AD f 11 v11)=x):AS w2 g x/\Cw w2 x.a6 I:=by
 subst b;exact⟨h.box.box,h.ig.1⟩
def L5(w:World)(mb ub b m:Nat)(c L:Int)(u:Value):Prop:=w.cell? ⟨mb,0,none⟩=some (.int .i64 c)/\w.cell? ⟨mb,1,none⟩=some u/\w.cell? ⟨ub,b+m,none⟩=some (.int .i64 L)
theorem L5.keeps{w w':World}{R:Nat->Prop}{mb ub c m:Nat}{e L:Int}{u:Value}(h:L5 w mb ub c m e L u)(b:Ad w w' R)(k:¬R mb)(q:¬R ub):L5 w' mb ub c m e L u:=⟨b.cell h.1 k,b.cell h.2.1 k,b.cell h.2.2 q⟩
theorem L5.below{w w':World}{mb ub b m:Nat}{e L:Int}{u:Value}(h:L5 w mb ub b m e L u)(c:Below w.heap.size w w'):L5 w' mb ub b m e L u:=
 ⟨(c.cell (p:=⟨mb,0,none⟩) (AN w _ h.1)).trans h.1,(c.cell (p:=⟨mb,1,none⟩) (AN w _ h.2.1)).trans h.2.1,(c.cell (p:=⟨ub,b+m,none⟩) (AN w _ h.2.2)).trans h.2.2⟩
theorem ArC(gs g:Nat)(f:Nat->Value)(I:List Sp)(bv:List Int)(w:World)(ce:Bd w gs bv)(F:BI w g f)(cf:f 11=.slice none 0 0)(cg:FK w (λb=>b≠gs/\b≠g) (f 6) I)(ci:DB 1 1 I=true)(cj:gs<g):Calls prog 37 #[.pointer (some ⟨gs,0,none⟩),.pointer (some ⟨g,0,none⟩)] w (AaJ gs g f I w):=by
 have dn:=F.lt;have s:=AoX w;have cl:=U s;have a':Hid (Eh w (Hr w) (Hr w) gs g (w.heap.size+5) f (.slice none 0 0) [] I bv):=
  ⟨ce.below s,by rw[Rm _ _ _ cf];exact F.below s,Fh.nil _ _ _,AoY w,((cg.aq (λb F e=>⟨F,e.1,e.2⟩)).keeps (Ad.av s) (λk ba e _=>O)),Ad.refl _ _,⟨cj,dn,s.size⟩⟩
 have cm:=U ci;clear ce F cf cg ci s cj;obtain⟨W,bb⟩:∃W,W=Hr w:=⟨_,rfl⟩;rw[<-bb]at a' cl;simp only[Hr,WT,WU]at bb;go_enter func37,ntmps37;go_wp2;rw[<-bb];clear bb;generalize w.heap.size+5=lb at a'|-;go_loopw[18] (λbx wr=>∃(k:Nat) (v11:Value) (Q:List Mq) (r:List Int),k<=5/\bx=.int .i64 k/\Hid (Eh w W wr gs g lb f v11 Q I r)/\Hid (GQ k I (Q.map (·.1)))) (λbx _=>5-(intOf bx).toNat)
 case atStart=>exact⟨0,_,_,bv,O,rfl,a',GQ.nil I⟩
 case round=>
  obtain⟨k,v11,Q,r,ba,rfl,A,G⟩:=hrel;clear a';by_cases k4:k<5
  ·have dP:(k:Int)<5:=by omega
   obtain⟨ub,h,m,C,q,ac,kG,co,cp,dq,ad,b0,b1,ds⟩:=A.out.lit k k4;obtain⟨L,b2⟩:∃L,ac.getD m 0=L:=⟨_,rfl⟩;have cq:wr.cell? ⟨ub,h+m,none⟩=some (.int .i64 L):=by
    obtain⟨dQ,dR,e,cr⟩:=b0 m O;cases e;rw[b2]at cr;exact cr
   have cs:Hid (CU wr (λb=>w.heap.size<=b/\v11.ownBlock≠some b) (.slice (some ⟨ub,h,none⟩) (m+1) C) ac):=by
    refine⟨⟨_,_,by rw[co],b0,Awm⟩,λb ff n c e=>?_⟩;cases e;refine⟨⟨b1,λe=>?_⟩,?_⟩
    ·have:=A.out.own ub e;omega
    ·have:=A.out.size;omega
   have dx:Hid (GQ (k+1) I (Q.map (·.1))):=G.out.skip k4;have dy:Hid ((val I q).isSome=false->(val I L).isSome=false->GQ (k+1) I ((Q++[((q,ac),Value.slice (some ⟨ub,h,none⟩) (m+1) C)]).map (·.1))):=by
    intro b3 dz;have:=G.out.snoc k4 (by rw[kG];exact b3) (by rw[kG];simp only;rw[cp,b2];exact dz);rw[FY];rw[kG]at this;exact this
   have dE:Hid (Q.length<=1000):=by have b3:=G.out.len;rw[C6]at b3;unfold Hid;omega
   have dS:m<=1:=Awm;have ct:Hid (w.heap.size<=ub/\ub<wr.heap.size):=⟨b1,by have:=A.out.size;omega⟩;clear G kG cp b2 b0 co;have s:=(Al wr.heap.size wr).alloc (Ac _) (.cells #[.int .i64 q,.slice (some ⟨ub,h,none⟩) (m+1) C] 73);have bc:=U (A.out.below s);have b4:=U (cs.out.keeps (Ad.av s) (λk ba e _=>O));have bd:Hid (L5 (wr.alloc (.cells #[.int .i64 q,.slice (some ⟨ub,h,none⟩) (m+1) C] 73)) wr.heap.size ub h m q L (.slice (some ⟨ub,h,none⟩) (m+1) C)):=
    ⟨EL,EL,(Ad.alloc wr _).cell cq (λe=>e)⟩
   have b5:gs<w.heap.size/\w.heap.size<=wr.heap.size:=⟨by have:=A.out.ord;omega,by have:=A.out.ord;have:=A.out.size;omega⟩;go_upto_region 3 with(fail);clear dq ad cq s;generalize (wr.alloc (.cells #[.int .i64 q,.slice (some ⟨ub,h,none⟩) (m+1) C] 73))=dT at bc b4 bd|-;have cu:Hid (w.heap.size<=wr.heap.size):=b5.2;have b6:Hid (gs<w.heap.size):=b5.1;generalize wr.heap.size=mb at bd cu ct|-;clear A cs b5 b1 ds;go_cut[46] (λc b7=>∃(B:Bool) (r':List Int),c=.bool B/\Hid (B=false->(val I q).isSome=false/\(val I L).isSome=false)/\Hid (Eh w W b7 gs g lb f v11 Q I r')/\Hid (L5 b7 mb ub h m q L (.slice (some ⟨ub,h,none⟩) (m+1) C))/\Hid (CU b7 (λb=>w.heap.size<=b/\v11.ownBlock≠some b) (.slice (some ⟨ub,h,none⟩) (m+1) C) ac))
   case first=>
    obtain⟨x,cv⟩:∃x,I1 (AD f 11 v11)=x:=⟨_,rfl⟩;have dF:=U cv;clear cv;obtain⟨z,cx⟩:∃z,AZ r 3=z:=⟨_,rfl⟩;have dG:=U cx;clear cx;obtain⟨be,cy⟩:∃be,Hid ((val I q).isSome=be):=⟨_,rfl⟩;obtain⟨bl,cA⟩:∃bl,Hid ((val I L).isSome=bl):=⟨_,rfl⟩;have dU:IntKind.i64.wrap ((m:Int)+1-1)=m:=H_;have dV:IntKind.i64.wrap (m:Int)=m:=AT _ O;refine wp_region_any Ax ?_;refine R6 (rs:=[0]) Ax J ?_;refine RX rfl (λK am=>?_) RY;go_simp;refine am _ _ ?_;clear am K;refine R6 (rs:=[1]) Ax J ?_;refine RX rfl (λK am=>?_) RY;go_simp;go_at_call 30;refine(Da gs r 3 z _ bc.out.src.drew O O dG).mono ?_;rintro e eC ⟨rfl,cB,cC⟩;have bs:=(Fx cC).bO;have lY:=U (bc.out.step bs cB);have iR:=U (bd.out.keeps bs (by have:=cu.out;have:=b6.out;omega) (by have:=ct.out;have:=b6.out;omega));have my:=U (b4.out.keeps bs (λb _ e dW=>by have:=b6.out;omega));clear bs cB cC;go_simp;refine am _ _ ?_;clear am K;have b8:=(lY.out.x dF.out);have cD:=U b8.2;obtain⟨⟨cF,cI,cO,c2,c3,c4⟩,⟨c5,c6,c7,c8,c9,c'⟩⟩:=b8.1.load;obtain⟨da,db,dc⟩:=iR.out;clear b8;have iw:=λp=>Aj cF p;have is:=λp=>Aj cI p;have it:=λp=>Aj cO p;have iA:=λp=>Aj c2 p;have iu:=λp=>Aj c3 p;have iz:=λp=>Aj c4 p;have iq:=λp=>Aj c5 p;have iB:=λp=>Aj c6 p;have iv:=λp=>Aj c7 p;have iy:=λp=>Aj c8 p;have ix:=λp=>Aj c9 p;have ir:=λp=>Aj c' p;have mA:=λp=>Aj da p;have mx:=λp=>Aj db p;have mu:=λp=>Aj dc p;have ad:=λp=>Dm (w:=eC) (p:=p) λb9 b'=>AfO x I q be b9 (cD.out.below b') cm.out cy;have ca:=λp=>Dm (w:=eC) (p:=p) λb9 b'=>AfO x I L bl b9 (cD.out.below b') cm.out cA;simp only[TV.agg]at ad ca;have df:=U ad;have dj:=U ca;clear ad ca cF cI cO c2 c3 c4 c5 c6 c7 c8 c9 c' da db dc;refine Au' 2 _ rfl rfl Ax Ax ?_;dsimp only[List.drop];by_cases bt:z=0
    ·have dH:(z==0)=true:=by simp[bt]
     clear bt
     repeat (go_big_quiet_step (fail))
     exact AxS
    ·have dH:(z==0)=false:=by simp[bt]
     clear bt;cases be with
     | true =>
       repeat (go_big_quiet_step (first
        | (go_at_call 65;with_reducible exact df.out _)
        | (go_at_call 65;with_reducible exact dj.out _)))
       exact AxS
     | false =>
       repeat (go_big_quiet_step (first
        | (go_at_call 65;with_reducible exact df.out _)
        | (go_at_call 65;with_reducible exact dj.out _)))
       refine wpQuiet_nil ?_;intro _ e7;obtain⟨pq,e6⟩:=e7;subst e6;have j5:=Dx eC pq;generalize Cf eC pq=kF at j5|-;have mw:=U (lY.out.below j5);have mz:=U (iR.out.below j5);have mv:=U (my.out.keeps (Ad.av j5) (λk ba e _=>O));clear j5 iw is it iA iu iz iq iB iv iy ix ir mA mx mu;go_wp2_with fail;go_meet;exact⟨bl,_,rfl,λe=>⟨cy.out,by rw[cA.out,e]⟩,mw,mz,mv⟩
   case rest=>
    obtain⟨B,r3,rfl,dJ,a9,dK,dL⟩:=hcut;clear bc b4 bd;cases B with
    | true =>
     go_wp2;go_roundw
     case rel=>exact⟨k+1,_,_,_,O,An,a9,dx⟩
     case measure=>simp[intOf];omega
    | false =>
     have cb:=dJ.out rfl;have dM:=U (dy.out cb.1 cb.2);clear cb;obtain⟨dX,dY,_⟩:=dK.out;have dN:wc.cell? ⟨g,11,none⟩=some v11:=by have:=(a9.out.box 11 O).1;rwa[EJ]at this
     have dZ:∀o,(wc.alloc o).cell? ⟨g,11,none⟩=some v11:=λo=>(Ad.alloc wc o).cell dN (λe=>e);have dO:=U (CG a9.out.aw.own (.cells #[.int .i64 q,.slice (some ⟨ub,h,none⟩) (m+1) C] 73));go_upto_region 4 with(fail);go_region_law
      (refine Yf (by rfl) _ _ (by rfl) W.heap.size v11 Q (by rfl) (by exact dO.out) _ 1 ((q,ac),.slice (some ⟨ub,h,none⟩) (m+1) C) (by rfl) EL EL rfl dE.out (by have:=a9.out.size;simp;omega) ?_
       intro v8 d0 cc dk dm
       obtain⟨d1,d2,d3,rfl⟩:=T9 cc
       have cd:=U (a9.out.bg dL.out cc dk dm ((Al wc.heap.size wc).alloc (Ac _) _).drew)
       have d4:=cd.out.2.1
       have d5:=cd.out.2.2)
     all_goals
      clear cc dk dm;go_wp2;go_roundw
      case rel=>exact⟨k+1,_,_,_,O,An,cd.out.1,dM⟩
      case measure=>simp[intOf];omega
  ·obtain rfl:k=5:=by omega
   go_wp2;go_end0;exact Eh.done cl.out A.out G.out
end Go.Proofs.YtblcoicaeeiojaaGreatDoor
