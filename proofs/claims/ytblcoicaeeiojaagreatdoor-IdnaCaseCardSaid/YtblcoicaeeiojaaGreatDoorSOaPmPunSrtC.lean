/- The library's stable sor -/
import Derived.Test.YtblcoicaeeiojaaGreatDoorSOaPmPunRow
set_option linter.all false
set_option maxHeartbeats 8000000
set_option maxRecDepth 100000
open Go.Proofs.Tryz
namespace Go.Proofs.YtblcoicaeeiojaaGreatDoor
open Go.RowKit Go.Sort
def ApL(x:Int)(w:World):Calls prog 279 #[.int .i64 x] w λe w'=>e=.returned (.bool false)/\w'=w:=by
 have h:(x !=x)=false:=J;go_enter func279,ntmps279;exact I7
def Qf(x y:Int):Int:=if x<y then -1 else if y<x then 1 else 0
def Alq(x y c:Int)(w:World)(cB:Hid (Qf x y=c)):Calls prog 246 #[.int .i64 x,.int .i64 y] w λe w'=>e=.returned (.int .i64 c)/\w'=w:=by
 rcases(show x<y\/(¬x<y/\y<x)\/(¬x<y/\¬y<x) by omega)with h|⟨h,b⟩|⟨h,b⟩
 ·obtain rfl : -1=c:=by rw[<-cB.out];unfold Qf;rw[N h]
  exact AiG
 ·obtain rfl:1=c:=by rw[<-cB.out];unfold Qf;rw[V h,N b]
  exact AiG
 ·obtain rfl:0=c:=by rw[<-cB.out];unfold Qf;rw[V h,V b]
  exact AiG
def J0(l:List Int)(b g:Nat)(w0:World):Prop:=
 ∀W,w0.grownBy W (some g)->∀x y c:Int,0<=x->x<l.length->0<=y->y<l.length->Hid (Gz l x y=c)->
  Calls prog 245 #[.int .i64 x,.int .i64 y,.pointer (some ⟨b,0,none⟩)] W λe w'=>e=.returned (.int .i64 c)/\∃q,w'=W.drewN q
def Alh(l:List Int)(p:Option Addr)(cap k:Nat)(W:World)(L:W.cell? ⟨k,0,none⟩=some (.slice p l.length cap))(b:Aq W p l)(ac:l.length<=17592186043904)(x y c:Int)(ad:0<=x)(am:x<l.length)(a9:0<=y)(a':y<l.length)(m:Hid (Gz l x y=c)):Calls prog 245 #[.int .i64 x,.int .i64 y,.pointer (some ⟨k,0,none⟩)] W λe w'=>e=.returned (.int .i64 c)/\∃q,w'=W.drewN q:=by
 obtain⟨i,rfl⟩:∃i:Nat,x=i:=⟨x.toNat,O⟩;obtain⟨j,rfl⟩:∃j:Nat,y=j:=⟨y.toNat,O⟩;obtain⟨ba,bb,rfl,C⟩:=b i O;obtain⟨bc,bd,F,G⟩:=b j O;cases F;have h:Hid (Qf (l.getD i 0) (l.getD j 0)=c):=m;obtain⟨X,s⟩:∃X,l.getD i 0=X:=⟨_,rfl⟩;obtain⟨Y,A⟩:∃Y,l.getD j 0=Y:=⟨_,rfl⟩;rw[s]at C h;rw[A]at G h;clear s A b m;go_enter func245,ntmps245;go_wp2_with fail;go_quiet ((go_at_call 246;exact Calls.quiet_of_same (Alq _ _ c _ h)));go_wp2;go_ret;exact⟨rfl,_,rfl⟩
def DT(l:List Int)(d:Array Int):Prop:=∀i,i<d.size->0<=d[i]!/\d[i]! < l.length
theorem DT.perm{l:List Int}{a b:Nat}{d hQ:Array Int}(h:DT l d)(c:PermIn a b d hQ)(k:b<=d.size):DT l hQ:=by
 intro i dI;rw[c.1]at dI;by_cases e:a<=i/\i<b
 ·exact permIn_all d hQ a b (λx=>0<=x/\x<l.length) k c (λi _ m=>h i O) i e.1 e.2
 ·rw[c.2.1 i O];exact h i dI
def AsG(g cap a m b:Nat)(d:Array Int)(F:Value)(w:World)(bx:AI w g cap d)(cl:d.size<=1099511627776)(b9:a<m)(b':m<b)(ad:b<=d.size):Calls prog 301 #[.slice (some ⟨g,0,none⟩) d.size cap,.int .i64 a,.int .i64 m,.int .i64 b,F] w (II g cap d (λhQ=>(∀k,hQ[k]! = BL a m b (λk=>d[k]!) k)/\PermIn a b d hQ) w):=by
 have b3:=U bx;obtain⟨N,bs⟩:∃N,d.size=N:=⟨_,rfl⟩;rw[bs]at cl ad|-;have bb:=U bs;clear bx bs;go_enter func301,ntmps301;go_wp2;go_loopw[10,11] (λu v wr=>∃(i j:Nat) (h:Array Int),u=.int .i64 i/\v=.int .i64 j/\1<=i/\1<=j/\a+i<=m/\m+j<=b/\Hid (h.size=d.size)/\Hid (AI wr g cap h)/\Hid (∀k,BL (m-i) m (m+j) (λk=>h[k]!) k=BL a m b (λk=>d[k]!) k)/\Hid (PermIn a b d h)/\Hid (w.grownBy wr (some g))) (λu v _=>(intOf u).toNat+(intOf v).toNat)
 case atStart=>exact⟨m-a,b-m,d,An,An,O,O,O,O,rfl,b3,λk=>by rw[show m-(m-a)=a by omega,show m+(b-m)=b by omega],I_ d a b,Ln _ _⟩
 case round=>
  obtain⟨i,j,h,rfl,rfl,dI,b4,b5,b6,eJ,ac,am,a9,a'⟩:=hrel;rcases Nat.lt_trichotomy i j with bt|b7|bt
  ·have b0:((i:Int) !=(j:Int))=true:=by simp;omega
   have b8:¬(j:Int)<(i:Int):=O;obtain⟨s,q⟩:∃s,m-i=s:=⟨_,rfl⟩;obtain⟨t,b1⟩:∃t,m+j-i=t:=⟨_,rfl⟩;have b2:(m:Int)-(i:Int)=(s:Int):=O;have ca:(m:Int)+(j:Int)-(i:Int)=(t:Int):=O;go_wp2_with fail;rw[<-bb.out,<-eJ.out];refine(Yj g cap s t i h F wr ac.out AhR O MD).mono ?_;rintro e w1 ⟨rfl,c,A,eK,⟨C,G⟩,L⟩;have ba:Hid (c.size=d.size):=AhP;have bc:=U A;have bd:=U (A5 a'.out L);have be:Hid (∀k,BL (m-i) m (m+(j-i)) (λk=>c[k]!) k=BL a m b (λk=>d[k]!) k):=by
    intro k;rw[<-am.out k,AsF (show i<=m by omega) bt];exact AfV (λk=>by rw[q,b1];exact C k) k
   have bl:Hid (PermIn a b d c):=I' _ _ _ _ _ a9.out (I9 h c s (t+i) a b O O AhS G);have bv:Hid (h.size=N):=by unfold Hid;rw[eJ.out];exact bb.out
   rw[bv.out];clear A eK C G L am a9 a' ac q b1;go_wp2;go_roundw
   case rel=>exact⟨i,j-i,c,An,An,dI,O,b5,O,ba,bc,be,bl,bd⟩
   case measure=>simp[intOf];omega
  ·subst b7;have b0:((i:Int) !=(i:Int))=false:=J;obtain⟨s,q⟩:∃s,m-i=s:=⟨_,rfl⟩;have b2:(m:Int)-(i:Int)=(s:Int):=O;go_wp2_with fail;rw[<-bb.out,<-eJ.out];refine(Yj g cap s m i h F wr ac.out AhR O MD).mono ?_;rintro e w1 ⟨rfl,c,A,eK,⟨C,G⟩,L⟩;have ba:Hid (c.size=d.size):=AhP;have bc:=U A;have bd:=U (A5 a'.out L);have be:Hid (∀k,c[k]! = BL a m b (λk=>d[k]!) k):=by
    intro k;rw[<-am.out k,AsD (show i<=m by omega),C k,q]
   have bl:Hid (PermIn a b d c):=I' _ _ _ _ _ a9.out (I9 h c s (m+i) a b O O AhS G);clear A eK C G L am a9 a' ac q;go_wp2;go_end0;exact⟨rfl,c,bc.out,ba.out,⟨be.out,bl.out⟩,bd.out⟩
  ·have b0:((i:Int) !=(j:Int))=true:=by simp;omega
   have b8:(j:Int)<(i:Int):=O;obtain⟨s,q⟩:∃s,m-i=s:=⟨_,rfl⟩;have b2:(m:Int)-(i:Int)=(s:Int):=O;go_wp2_with fail;rw[<-bb.out,<-eJ.out];refine(Yj g cap s m j h F wr ac.out AhR O MD).mono ?_;rintro e w1 ⟨rfl,c,A,eK,⟨C,G⟩,L⟩;have ba:Hid (c.size=d.size):=AhP;have bc:=U A;have bd:=U (A5 a'.out L);have be:Hid (∀k,BL (m-(i-j)) m (m+j) (λk=>c[k]!) k=BL a m b (λk=>d[k]!) k):=by
    intro k;rw[<-am.out k,AsE (show i<=m by omega) bt];exact AfV (λk=>by rw[q];exact C k) k
   have bl:Hid (PermIn a b d c):=I' _ _ _ _ _ a9.out (I9 h c s (m+j) a b O O AhS G);have bv:Hid (h.size=N):=by unfold Hid;rw[eJ.out];exact bb.out
   rw[bv.out];clear A eK C G L am a9 a' ac q;go_wp2;go_roundw
   case rel=>exact⟨i-j,j,c,An,An,O,b4,O,b6,ba,bc,be,bl,bd⟩
   case measure=>simp[intOf];omega
structure La (l:List Int) (a j i:Nat) (x:Int) (d dj:Array Int):Prop where
 ins:Ins (AK l) a j i dj
 at_:dj[j]! = x
 low:∀p,a<=p->p<=i->p≠j->dj[p]! < x
 perm:PermIn a (i+1) d dj
theorem La.start{l:List Int}{a i:Nat}{d b:Array Int}(A:a<=i)(dI:i<d.size)(e:PermIn a i d b)(k:SortedIn (AK l) a i b)(m:∀p,a<=p->p<i->d[p]! < d[i]!):La l a i i d[i]! d b where
 ins:=⟨λp q c h s C F=>k p q c h O,λq c h=>O⟩
 at_:=e.2.1 i (.inr (Ac i))
 low p c h s:=permIn_all d b a i (λy=>y<d[i]!) O e m p c O
 perm:=I9 d b a i a (i+1) (Ac a) O O e
theorem La.step{l:List Int}{a j i:Nat}{x:Int}{d b:Array Int}(h:La l a (j+1) i x d b)(c:a<=j)(C:j+1<=i)(dI:i<d.size)(m:AK l x b[j]! = true):La l a j i x d (swp b (j+1) j):=by
 have F:=h.perm.1;have k:=swp_get b (show j+1<b.size by omega) (show j<b.size by omega);refine⟨h.ins.step (by rw[h.at_];exact m) c O,?_,?_,?_⟩
 ·rw[k,N rfl];exact h.at_
 ·intro p q s A;rw[k,V A];by_cases e:p=j+1
  ·rw[N e];exact h.low j c O O
  ·rw[V e];exact h.low p q s e
 ·exact I' _ _ _ _ _ h.perm (swp_permIn b a (i+1) (j+1) j O O c O O)
def An5(l:List Int)(g cap bv a b:Nat)(d:Array Int)(w0 w:World)(bx:J0 l bv g w0)(b0:w0.grownBy w (some g))(b1:DT l d)(b2:AI w g cap d)(cl:d.size<=1099511627776)(cF:a<=b)(cm:b<=d.size)(b3:∀i j,a<=i->i<j->j<b->d[i]! < d[j]!):Calls prog 291 #[.slice (some ⟨g,0,none⟩) d.size cap,.int .i64 a,.int .i64 b,.func (.func 245) #[] #[.pointer (some ⟨bv,0,none⟩)]] w (II g cap d (λhQ=>PermIn a b d hQ/\SortedIn (AK l) a b hQ) w):=by
 have b4:=U bx;have b5:=U b0;have b6:=U b1;have co:=U b2;have cp:=U b3;obtain⟨N,ad⟩:∃N,d.size=N:=⟨_,rfl⟩;rw[ad]at cl cm|-;have bb:=U ad;clear b2 ad bx b0 b1 b3;go_enter func291,ntmps291;go_wp2;go_loopw[8] (λu wr=>∃(i:Nat) (m:Array Int),u=.int .i64 i/\a+1<=i/\(i<=b\/(b<i/\i=a+1/\m=d))/\Hid (AI wr g cap m)/\Hid (PermIn a i d m)/\Hid (SortedIn (AK l) a i m)/\Hid (w.grownBy wr (some g))) (λu _=>b+1-(intOf u).toNat)
 case atStart=>exact⟨a+1,d,An,O,by by_cases h:a+1<=b;exact .inl h;exact .inr ⟨O,rfl,rfl⟩,co,I_ d a (a+1),λi j am a9 cq=>O,Ln _ _⟩
 case round=>
  obtain⟨i,m,rfl,cI,C,a',F,ba,bc⟩:=hrel;by_cases cr:i<b
  ·have b7:Hid (La l a i i d[i]! d m):=La.start O FD F.out ba.out (λp am a9=>cp.out p i am a9 cr);obtain⟨x,b8⟩:∃x,d[i]! = x:=⟨_,rfl⟩;have b9:=b6.out i FD;rw[b8]at b7 b9;obtain⟨b',ca⟩:=b9;clear b8 F ba;have cO:i<=b:=O;clear C;go_wp2;go_loopw[9] (λu cb=>∃(j:Nat) (fF:Array Int),u=.int .i64 j/\a<=j/\j<=i/\Hid (AI cb g cap fF)/\Hid (La l a j i x d fF)/\Hid (w.grownBy cb (some g))) (λu _=>(intOf u).toNat)
   case atStart=>exact⟨i,m,rfl,O,Ac _,a',b7,bc⟩
   case round=>
    obtain⟨j,fF,rfl,c2,cs,jz,k,fy⟩:=hrel;have oH:Hid (fF.size=N):=by unfold Hid;rw[k.out.perm.1];exact bb.out
    by_cases ct:a<j
    ·obtain⟨c,rfl⟩:∃c,j=c+1:=⟨j-1,O⟩;obtain⟨e,bd⟩:∃e,c+1=e:=⟨_,rfl⟩;have G:=jz.out.cell (i:=c+1) UK;have be:=jz.out.cell (i:=c) UK;rw[k.out.at_]at G;obtain⟨y,A⟩:∃y,fF[c]! = y:=⟨_,rfl⟩;have cc:y<x:=by rw[<-A];exact k.out.low c O O O
     have cu:0<=y/\y<l.length:=by
      rw[<-A];exact(b6.out.perm k.out.perm FD) c UK
     obtain⟨cd,ce⟩:=cu;rw[A]at be;have bl:=jz.out.soft (c+1);have cf:=jz.out.soft c;have bs:Hid (AI ((wr.setCell ⟨g,c+1,none⟩ (.int .i64 y)).setCell ⟨g,c,none⟩ (.int .i64 x)) g cap (swp fF (c+1) c)):=by
      unfold Hid;rw[<-A,<-k.out.at_];exact jz.out.swp UK UK
     have cg:=U A;have c3:(c:Int)+1=(e:Int):=O;have c4:(e:Int)-1=(c:Int):=O;rw[bd]at G bl bs|-;have cv:=U bd;have c5:e<N:=O;have c6:c<N:=O;have c7:a<e:=O;have c8:e≠c:=O;clear A bd ct;by_cases L:Gz l x y<0
     ·have ac:Hid (AK l x y=true):=by unfold Hid;rw[<-WZ cc];exact Xz.1 L
      obtain⟨q,s⟩:∃q,Gz l x y=q:=⟨_,rfl⟩;rw[s]at L;have bt:=U s;clear s;go_wp2_with fail;go_quiet ((go_at_call 245;exact Calls.quiet_of (b4.out _ (A5 b5.out (Em fy.out _)) x y q b' ca cd ce bt)));have ci:Hid (AI (((wr.drewN nq).setCell ⟨g,e,none⟩ (.int .i64 y)).setCell ⟨g,c,none⟩ (.int .i64 x)).drew g cap (swp fF e c)):=bs.out;have cj:Hid (w.grownBy (((wr.drewN nq).setCell ⟨g,e,none⟩ (.int .i64 y)).setCell ⟨g,c,none⟩ (.int .i64 x)).drew (some g)):=OB (A5 (Em fy.out nq) (Tn _ _ _ _ _ _));have cx:Hid (La l a c i x d (swp fF e c)):=by
       unfold Hid;rw[<-cv.out];exact k.out.step O cs FD (by rw[cg.out];exact ac.out)
      have cy:(wr.drewN nq).cell? ⟨g,e,none⟩=some (.int .i64 x):=G;have cA:(wr.drewN nq).cell? ⟨g,c,none⟩=some (.int .i64 y):=be;have cB:(wr.drewN nq).frozen? ⟨g,e,none⟩=false:=bl;have cC:(wr.drewN nq).frozen? ⟨g,c,none⟩=false:=cf;clear G be bl cf jz k bs ac;generalize wr.drewN nq=c9 at cy cA cB cC ci cj|-;go_wp2_with fail;go_region;go_wp2;go_roundw
      case rel=>exact⟨c,swp fF e c,rfl,O,O,ci,cx,cj⟩
      case measure=>simp[intOf];omega
     ·have ac:Hid (AK l x y=false):=by
       unfold Hid;rw[<-WZ cc];cases cD:QE l x y with
       | false=>rfl
       | true=>exact absurd (Xz.2 cD) L
      obtain⟨q,s⟩:∃q,Gz l x y=q:=⟨_,rfl⟩;rw[s]at L;have bt:=U s;have j3:Hid (SortedIn (AK l) a (i+1) fF):=k.out.ins.stop (OH l) (Or.inr (by rw[PR,k.out.at_,cg.out];exact ac.out));have mr:=U k.out.perm;clear s;go_wp2_with fail;go_quiet ((go_at_call 245;exact Calls.quiet_of (b4.out _ (A5 b5.out (Em fy.out _)) x y q b' ca cd ce bt)));exact AyC
    ·have j3:Hid (SortedIn (AK l) a (i+1) fF):=k.out.ins.stop (OH l) (Or.inl O);have mr:=U k.out.perm;have c':decide ((a:Int)<(j:Int))=false:=Ai O;have da:decide (a<j)=false:=Ai O;go_wp2_with fail;go_quiet (fail);exact AyC
  ·rcases C with C|⟨C,db,rfl⟩
   ·obtain rfl:i=b:=by omega
    go_wp2;go_end0;exact⟨rfl,m,a'.out,F.out.1,⟨F.out,ba.out⟩,bc.out⟩
   ·go_wp2;go_end0;exact⟨rfl,m,a'.out,rfl,⟨I_ m a b,λi j am a9 cq=>O⟩,bc.out⟩
def T8(N g cap a m b:Nat)(d:Array Int)(F:Value)(w:World)(c:Hid (d.size=N))(e:AI w g cap d)(h:N<=1099511627776)(q:a<m)(s:m<b)(A:b<=N):Calls prog 301 #[.slice (some ⟨g,0,none⟩) N cap,.int .i64 a,.int .i64 m,.int .i64 b,F] w (II g cap d (λhQ=>(∀k,hQ[k]! = BL a m b (λk=>d[k]!) k)/\PermIn a b d hQ) w):=by
 obtain rfl:=c.out;exact AsG g cap a m b d F w e h q s A
def Ac5(N:Nat)(l:List Int)(g cap c a b:Nat)(d:Array Int)(w0 w:World)(e:Hid (d.size=N))(h:J0 l c g w0)(k:w0.grownBy w (some g))(m:DT l d)(q:AI w g cap d)(s:N<=1099511627776)(A:a<=b)(C:b<=N)(F:∀i j,a<=i->i<j->j<b->d[i]! < d[j]!):Calls prog 291 #[.slice (some ⟨g,0,none⟩) N cap,.int .i64 a,.int .i64 b,.func (.func 245) #[] #[.pointer (some ⟨c,0,none⟩)]] w (II g cap d (λhQ=>PermIn a b d hQ/\SortedIn (AK l) a b hQ) w):=by
 obtain rfl:=e.out;exact An5 l g cap c a b d w0 w h k m q s A C F
def P4(l:List Int)(g cap c N K:Nat)(w0:World):Prop:=
 ∀(a m b:Nat) (d:Array Int) (w:World),b<=a+K->Hid (d.size=N)->w0.grownBy w (some g)->DT l d->AI w g cap d->DS l a m b d->a<m->m<b->
  Calls prog 292 #[.slice (some ⟨g,0,none⟩) N cap,.int .i64 a,.int .i64 m,.int .i64 b,.func (.func 245) #[] #[.pointer (some ⟨c,0,none⟩)]] w (II g cap d (λhQ=>PermIn a b d hQ/\SortedIn (AK l) a b hQ) w)
def AsB{a k:Nat}{d b:Array Int}(h:∀p,b[p]! = BL a (a+1) (k+1) (λp=>d[p]!) p)(C:a<=k)(s:k+1<b.size)(p:Nat):(swp b k (k+1))[p]! = BL a (a+1) (k+2) (λp=>d[p]!) p:=by
 rw[swp_get b O s];have m:=h k;have q:=h (k+1);have A:=h p;unfold BL at *;rw[V O,N O]at m;rw[V O,V O]at q;by_cases c:p=k+1
 ·rw[N c,m,V O,N O];simp only[c];congr 1;omega
 ·rw[V c];by_cases e:p=k
  ·rw[N e,q,N O];simp only[e];congr 1;omega
  ·rw[V e,A];by_cases F:a<=p/\p<k
   ·rw[N O,N O]
   ·rw[V (show ¬(a<=p/\p<a+(k+1-(a+1))) by omega),V (show ¬(a+(k+1-(a+1))<=p/\p<k+1) by omega),V (show ¬(a<=p/\p<a+(k+2-(a+1))) by omega),V (show ¬(a+(k+2-(a+1))<=p/\p<k+2) by omega)]
def AsC{m k:Nat}{d b:Array Int}(h:∀p,b[p]! = BL (k+1) m (m+1) (λp=>d[p]!) p)(C:k+1<=m)(F:m<b.size)(p:Nat):(swp b (k+1) k)[p]! = BL k m (m+1) (λp=>d[p]!) p:=by
 rw[swp_get b O O];have q:=h k;have s:=h (k+1);have A:=h p;unfold BL at *;rw[V O,V O]at q;rw[N O]at s;by_cases c:p=k
 ·rw[N c,s,N O];simp only[c];congr 1;omega
 ·rw[V c];by_cases e:p=k+1
  ·rw[N e,q,V O,N O];simp only[e];congr 1;omega
  ·rw[V e,A];by_cases G:k+2<=p/\p<m+1
   ·rw[V (show ¬(k+1<=p/\p<k+1+(m+1-m)) by omega),N (show k+1+(m+1-m)<=p/\p<m+1 by omega),V (show ¬(k<=p/\p<k+(m+1-m)) by omega),N (show k+(m+1-m)<=p/\p<m+1 by omega)]
   ·rw[V (show ¬(k+1<=p/\p<k+1+(m+1-m)) by omega),V (show ¬(k+1+(m+1-m)<=p/\p<m+1) by omega),V (show ¬(k<=p/\p<k+(m+1-m)) by omega),V (show ¬(k+(m+1-m)<=p/\p<m+1) by omega)]
theorem DS.congr{l:List Int}{a m b:Nat}{d hQ:Array Int}(h:DS l a m b d)(A:hQ.size=d.size)(e:∀k,a<=k->hQ[k]! = d[k]!):DS l a m b hQ where
 am:=h.am
 mb:=h.mb
 size:=by rw[A];exact h.size
 left i j c q s:=by rw[e i c,e j O];exact h.left i j c q s
 right i j c q s:=by have:=h.am;rw[e i O,e j O];exact h.right i j c q s
 aX i j c q s C:=by rw[e i c,e j O];exact h.aX i j c q s C
def At'(l:List Int)(g cap C N K:Nat)(w0:World)(ac:J0 l C g w0)(ce:N<=1099511627776)(am:P4 l g cap C N K w0)(a m b:Nat)(d:Array Int)(w:World)(cf:b<=a+(K+1))(iY:Hid (d.size=N))(a9:w0.grownBy w (some g))(a':DT l d)(ba:AI w g cap d)(dn:DS l a m b d)(b7:a<m)(cg:m<b)(bb:m=a+1):Calls prog 292 #[.slice (some ⟨g,0,none⟩) N cap,.int .i64 a,.int .i64 m,.int .i64 b,.func (.func 245) #[] #[.pointer (some ⟨C,0,none⟩)]] w (II g cap d (λhQ=>PermIn a b d hQ/\SortedIn (AK l) a b hQ) w):=by
 have cp:=U ac;have jv:=U a9;have bc:=U a';have b8:=U ba;have bd:=U dn;have ci:=U am;have cj:b<=N:=YY;clear ac a9 a' ba dn am;have cl:((m:Int)-(a:Int)==1)=true:=Ae;have be:=U bb;have cm:a+1<=m:=O;clear bb;go_enter func292,ntmps292;go_wp2;go_loopw[10,11] (λu v wr=>∃i j:Nat,u=.int .i64 i/\v=.int .i64 j/\m<=i/\i<=j/\j<=b/\Hid (m<i->AK l d[i-1]! d[a]! = true)/\Hid (j<b->AK l d[j]! d[a]! = false)/\Hid (AI wr g cap d)/\Hid (w.grownBy wr (some g))) (λu v _=>(intOf v).toNat-(intOf u).toNat)
 case atStart=>exact⟨m,b,rfl,rfl,Ac _,O,Ac _,λh=>O,λh=>O,b8,Ln _ _⟩
 case round=>
  obtain⟨i,j,rfl,rfl,kA,co,j4,cC,dK,iZ,dy⟩:=hrel;by_cases cq:i<j
  ·obtain⟨h,b9⟩:∃h,(i+j)/2=h:=⟨_,rfl⟩;have cr:i<=h:=O;have cs:h<j:=O;have F:=iZ.out.cell (i:=h) Hk;have G:=iZ.out.cell (i:=a) Hk;obtain⟨x,q⟩:∃x,d[h]! = x:=⟨_,rfl⟩;obtain⟨y,s⟩:∃y,d[a]! = y:=⟨_,rfl⟩;have bl:=bc.out h Hk;have bs:=bc.out a Hk;have fV:=bd.out.cmp (Ac a) b7 (show m<=h by omega) (show h<b by omega);rw[q,s]at fV;rw[q]at F bl;rw[s]at G bs;obtain⟨js,ju⟩:=bl;obtain⟨jx,jy⟩:=bs;have ct:((i:Int)+(j:Int))/2=(h:Int):=O;have bt:=U q;have bv:=U s;have cu:a<N:=O;have cv:h<N:=O;clear q s b9;by_cases eY:Gz l x y<0
   ·have iO:Hid (m<h+1->AK l d[h+1-1]! d[a]! = true):=λ_=>by rw[PR,bt.out,bv.out];exact fV.1 eY
    obtain⟨eO,jt⟩:∃eO,Gz l x y=eO:=⟨_,rfl⟩;rw[jt]at eY;exact AxP
   ·have cx:Hid (h<b->AK l d[h]! d[a]! = false):=λ_=>by
     rw[bt.out,bv.out];exact Z8
    exact AxN
  ·obtain rfl:j=i:=by omega
   obtain⟨e,b'⟩:∃e,j=e+1:=⟨j-1,O⟩;have cy:(j:Int)-1=(e:Int):=O;have ca:=iZ;have cb:=dy;go_wp2;go_loopw[13] (λu wr=>∃(k:Nat) (ew:Array Int),u=.int .i64 k/\a<=k/\k<=e/\Hid (ew.size=N)/\Hid (AI wr g cap ew)/\Hid (∀p,ew[p]! = BL a (a+1) (k+1) (λp=>d[p]!) p)/\Hid (PermIn a b d ew)/\Hid (w.grownBy wr (some g))) (λu _=>e-(intOf u).toNat)
   case atStart=>exact⟨a,d,rfl,Ac _,O,iY,ca,λp=>(X3 (.inr rfl) p).symm,I_ d a b,cb⟩
   case round=>
    obtain⟨k,ew,rfl,cc,cA,lN,fW,L,jA,jB⟩:=hrel;by_cases cB:k<e
    ·obtain⟨c,bx⟩:∃c,k+1=c:=⟨_,rfl⟩;have F:=fW.out.cell (i:=k) JK;have G:=fW.out.cell (i:=c) JK;have cD:=fW.out.soft k;have cF:=fW.out.soft c;have b0:Hid (∀p,(swp ew k c)[p]! = BL a (a+1) (c+1) (λp=>d[p]!) p):=by
      unfold Hid;rw[<-bx];exact AsB L.out cc JK
     have b1:Hid (PermIn a b d (swp ew k c)):=I' _ _ _ _ _ jA.out (swp_permIn ew a b k c O O O O JK);have A:=U (fW.out.swp (i:=k) (j:=c) JK JK);have b2:Hid ((swp ew k c).size=N):=Axx;obtain⟨x,q⟩:∃x,ew[k]! = x:=⟨_,rfl⟩;obtain⟨y,s⟩:∃y,ew[c]! = y:=⟨_,rfl⟩;rw[q]at F A;rw[s]at G A;have b3:=U (OB (A5 jB.out (Tn wr g k c (.int .i64 y) (.int .i64 x))));have b4:=U A.out.drew;have cI:(k:Int)+1=(c:Int):=O;have cO:k<N:=O;have c2:c<N:=O;have c3:k≠c:=O;have b5:c<=e:=O;have b6:a<=c:=O;have cd:e-c<e-k:=O;clear q s bx fW L jA jB A;go_wp2;go_region;go_wp2;go_roundw
     case rel=>first|exact⟨c,swp ew k c,rfl,b6,b5,b2,b4,b0,b1,b3⟩|(repeat apply Exists.intro;refine⟨⟨c,swp ew k c,rfl,b6,b5,b2,b4,b0,b1,b3⟩,rfl⟩)
     case measure=>simpa[intOf] using cd
    ·obtain rfl:e=k:=by omega
     have j3:Hid (SortedIn (AK l) a b ew):=bd.out.de be.out kA j4 cC.out dK.out (by rw[b',be.out];exact L.out);exact Av4
def Auc(l:List Int)(g cap G N K:Nat)(w0:World)(bc:J0 l G g w0)(cf:N<=1099511627776)(bd:P4 l g cap G N K w0)(a m b:Nat)(d:Array Int)(w:World)(cg:b<=a+(K+1))(iY:Hid (d.size=N))(be:w0.grownBy w (some g))(bl:DT l d)(bs:AI w g cap d)(dn:DS l a m b d)(ci:a<m)(cj:m<b)(bt:b=m+1)(cl:a+2<=m):Calls prog 292 #[.slice (some ⟨g,0,none⟩) N cap,.int .i64 a,.int .i64 m,.int .i64 b,.func (.func 245) #[] #[.pointer (some ⟨G,0,none⟩)]] w (II g cap d (λhQ=>PermIn a b d hQ/\SortedIn (AK l) a b hQ) w):=by
 have cp:=U bc;have jv:=U be;have bv:=U bl;have b8:=U bs;have bx:=U dn;have cm:=U bd;have co:b<=N:=YY;clear bc be bl bs dn bd;have cq:((m:Int)-(a:Int)==1)=false:=Ae;have cr:((b:Int)-(m:Int)==1)=true:=Ae;have b0:=U bt;clear bt;go_enter func292,ntmps292;go_wp2;go_loopw[14,15] (λu v wr=>∃i j:Nat,u=.int .i64 i/\v=.int .i64 j/\a<=i/\i<=j/\j<=m/\Hid (a<i->AK l d[m]! d[i-1]! = false)/\Hid (j<m->AK l d[m]! d[j]! = true)/\Hid (AI wr g cap d)/\Hid (w.grownBy wr (some g))) (λu v _=>(intOf v).toNat-(intOf u).toNat)
 case atStart=>exact⟨a,m,rfl,rfl,Ac _,O,Ac _,λh=>O,λh=>O,b8,Ln _ _⟩
 case round=>
  obtain⟨i,j,rfl,rfl,kA,cs,j4,cC,dK,iZ,dy⟩:=hrel;by_cases ct:i<j
  ·obtain⟨h,b9⟩:∃h,(i+j)/2=h:=⟨_,rfl⟩;have cu:i<=h:=O;have cv:h<j:=O;have A:=iZ.out.cell (i:=m) Hk;have L:=iZ.out.cell (i:=h) Hk;obtain⟨x,q⟩:∃x,d[m]! = x:=⟨_,rfl⟩;obtain⟨y,s⟩:∃y,d[h]! = y:=⟨_,rfl⟩;have b1:=bv.out m Hk;have b2:=bv.out h Hk;have fV:=bx.out.cmp (show a<=h by omega) (show h<m by omega) (Ac m) (show m<b by omega);rw[q,s]at fV;rw[q]at A b1;rw[s]at L b2;obtain⟨js,ju⟩:=b1;obtain⟨jx,jy⟩:=b2;have cy:((i:Int)+(j:Int))/2=(h:Int):=O;have b3:=U q;have b4:=U s;have cA:m<N:=O;have cB:h<N:=O;clear q s b9;by_cases eY:Gz l x y<0
   ·have cx:Hid (h<m->AK l d[m]! d[h]! = true):=λ_=>by rw[b3.out,b4.out];exact fV.1 eY
    exact AxN
   ·have iO:Hid (a<h+1->AK l d[m]! d[h+1-1]! = false):=λ_=>by
     rw[PR,b3.out,b4.out];exact Z8
    obtain⟨eO,jt⟩:∃eO,Gz l x y=eO:=⟨_,rfl⟩;rw[jt]at eY;have cD:decide (eO<0)=false:=Ai eY;exact AxP
  ·obtain rfl:j=i:=by omega
   have b':=iZ;have ca:=dy;go_wp2;go_loopw[17] (λu wr=>∃(k:Nat) (ew:Array Int),u=.int .i64 k/\j<=k/\k<=m/\Hid (ew.size=N)/\Hid (AI wr g cap ew)/\Hid (∀p,ew[p]! = BL k m (m+1) (λp=>d[p]!) p)/\Hid (PermIn a b d ew)/\Hid (w.grownBy wr (some g))) (λu _=>(intOf u).toNat)
   case atStart=>exact⟨m,d,rfl,j4,Ac _,iY,b',λp=>(X3 (.inl rfl) p).symm,I_ d a b,ca⟩
   case round=>
    obtain⟨k,ew,rfl,cb,b5,lN,fW,ac,jA,jB⟩:=hrel;by_cases cc:j<k
    ·obtain⟨c,rfl⟩:∃c,k=c+1:=⟨k-1,O⟩;have A:=fW.out.cell (i:=c+1) JK;have L:=fW.out.cell (i:=c) JK;have cd:=fW.out.soft (c+1);have cF:=fW.out.soft c;have am:Hid (∀p,(swp ew (c+1) c)[p]! = BL c m (m+1) (λp=>d[p]!) p):=AsC ac.out b5 JK;have a9:Hid (PermIn a b d (swp ew (c+1) c)):=I' _ _ _ _ _ jA.out (swp_permIn ew a b (c+1) c O O O O JK);have C:=U (fW.out.swp (i:=c+1) (j:=c) JK JK);have a':Hid ((swp ew (c+1) c).size=N):=Axx;obtain⟨x,q⟩:∃x,ew[c+1]! = x:=⟨_,rfl⟩;obtain⟨y,s⟩:∃y,ew[c]! = y:=⟨_,rfl⟩;rw[q]at A C;rw[s]at L C;have ba:=U (OB (A5 jB.out (Tn wr g (c+1) c (.int .i64 y) (.int .i64 x))));have bb:=U C.out.drew;obtain⟨e,F⟩:∃e,c+1=e:=⟨_,rfl⟩;have cI:(e:Int)-1=(c:Int):=O;have cO:(c:Int)+1=(e:Int):=O;rw[F]at A cd bb ba am a9 a' cc;have c2:=U F;have c3:e<N:=O;have c4:c<N:=O;have c5:e≠c:=O;have b6:c<=m:=O;have b7:j<=c:=O;have ce:c<e:=O;rw[F];clear q s F fW ac jA jB C b5 cb;go_wp2;go_region;go_wp2;go_roundw
     case rel=>first|exact⟨c,swp ew e c,rfl,b7,b6,a',bb,am,a9,ba⟩|(repeat apply Exists.intro;refine⟨⟨c,swp ew e c,rfl,b7,b6,a',bb,am,a9,ba⟩,rfl⟩)
     case measure=>simpa[intOf] using ce
    ·obtain rfl:j=k:=by omega
     have j3:Hid (SortedIn (AK l) a b ew):=bx.out.dg b0.out kA j4 cC.out dK.out (by rw[b0.out];exact ac.out);exact Av4
def AgD{a m b c e:Nat}(h:KE a m b=(c,e))(s:a+2<=m)(A:m+2<=b):a<=c/\c<=e/\e<=m/\e<=(a+b)/2/\(a+b)/2+m<=b+c/\((a+b)/2<m->c=(a+b)/2+m-b/\e=(a+b)/2)/\(¬(a+b)/2<m->c=a/\e=m):=by
 unfold KE at h;split at h
 ·injection h with k q;omega
 ·injection h with k q;omega
theorem DS.idle{l:List Int}{a m b:Nat}{d:Array Int}(h:DS l a m b d)(c:¬(a<m/\m<b)):SortedIn (AK l) a b d:=by
 have k:=h.am;have q:=h.mb;by_cases e:a=m
 ·subst e;exact h.right
 ·obtain rfl:m=b:=by omega
  exact h.left
def Aua(l:List Int)(g cap C N K:Nat)(w0:World)(a9:J0 l C g w0)(cl:N<=1099511627776)(bb:P4 l g cap C N K w0)(a m b:Nat)(d:Array Int)(w:World)(cr:b<=a+(K+1))(iY:Hid (d.size=N))(bd:w0.grownBy w (some g))(bl:DT l d)(bs:AI w g cap d)(dn:DS l a m b d)(cs:a<m)(ct:m<b)(a':a+2<=m)(be:m+2<=b)(F:¬(a+b)/2<m):Calls prog 292 #[.slice (some ⟨g,0,none⟩) N cap,.int .i64 a,.int .i64 m,.int .i64 b,.func (.func 245) #[] #[.pointer (some ⟨C,0,none⟩)]] w (II g cap d (λhQ=>PermIn a b d hQ/\SortedIn (AK l) a b hQ) w):=by
 have cp:=U a9;have jv:=U bd;have bv:=U bl;have ca:=U bs;have ei:=U dn;have lG:=U bb;have lI:b<=N:=YY;clear a9 bd bl bs dn bb;have cu:((m:Int)-(a:Int)==1)=false:=Ae;have cv:((b:Int)-(m:Int)==1)=false:=Ae;obtain⟨bt,bx,G⟩:∃bt bx,KE a m b=(bt,bx):=⟨_,_,rfl⟩;obtain⟨cy,cA,cB,cb,cc,L,ac⟩:=AgD G a' be;have lK:=U G;obtain⟨c,am⟩:∃c,(a+b)/2=c:=⟨_,rfl⟩;have cD:((a:Int)+(b:Int))/2=(c:Int):=O;rw[am]at cb cc L ac F;have cd:=F;clear F;have lH:=U am;have cF:a+2<=c:=O;have cI:c+2<=b:=O;have cO:2*c<=a+b:=O;have c2:a+b<=2*c+1:=O;clear am G;have ce:=U L;have b0:=U ac;clear L ac;obtain⟨cf,cg⟩:=b0.out cd;obtain rfl:=cf.symm;obtain rfl:=cg.symm;clear ce b0;go_enter func292,ntmps292;go_wp2;go_loopw[20,21] (λu v wr=>∃s r:Nat,u=.int .i64 s/\v=.int .i64 r/\a<=s/\s<=r/\r<=m/\Hid (a<s->AK l d[c+m-1-(s-1)]! d[s-1]! = false)/\Hid (r<m->AK l d[c+m-1-r]! d[r]! = true)/\Hid (AI wr g cap d)/\Hid (w.grownBy wr (some g))) (λu v _=>(intOf v).toNat-(intOf u).toNat)
 case atStart=>exact⟨a,m,rfl,rfl,Ac _,O,Ac _,λh=>O,λh=>O,ca,Ln _ _⟩
 case round=>
  obtain⟨s,r,rfl,rfl,lE,c3,lF,cC,dK,jw,dy⟩:=hrel;by_cases c4:s<r
  ·obtain⟨h,ci⟩:∃h,(s+r)/2=h:=⟨_,rfl⟩;have c5:s<=h:=O;have c6:h<r:=O;obtain⟨p,b1⟩:∃p,c+m-1-h=p:=⟨_,rfl⟩;have cj:m<=p:=O;have cm:p<b:=O;have co:=jw.out.cell (i:=p) Hk;have cq:=jw.out.cell (i:=h) Hk;obtain⟨x,q⟩:∃x,d[p]! = x:=⟨_,rfl⟩;obtain⟨y,A⟩:∃y,d[h]! = y:=⟨_,rfl⟩;have b2:=bv.out p Hk;have b3:=bv.out h Hk;have fV:=ei.out.cmp (show a<=h by omega) (show h<m by omega) cj cm;rw[q,A]at fV;rw[q]at co b2;rw[A]at cq b3;obtain⟨js,ju⟩:=b2;obtain⟨jx,jy⟩:=b3;have c7:((s:Int)+(r:Int))/2=(h:Int):=O;have c8:(c:Int)+(m:Int)-1-(h:Int)=(p:Int):=O;have b4:=U q;have b6:=U A;have b7:=U b1;have c9:p<N:=O;have c':h<N:=O;clear q A ci b1;by_cases eY:Gz l x y<0
   ·have cx:Hid (h<m->AK l d[c+m-1-h]! d[h]! = true):=λ_=>by rw[b7.out,b4.out,b6.out];exact fV.1 eY
    exact AxR
   ·have iO:Hid (a<h+1->AK l d[c+m-1-(h+1-1)]! d[h+1-1]! = false):=λ_=>by
     rw[PR,b7.out,b4.out,b6.out];exact Z8
    exact AxQ
  ·exact AAN
end Go.Proofs.YtblcoicaeeiojaaGreatDoor
