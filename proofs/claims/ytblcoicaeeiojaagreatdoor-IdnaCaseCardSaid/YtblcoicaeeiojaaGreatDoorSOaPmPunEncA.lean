/- The library's stable sor -/
import Derived.Test.YtblcoicaeeiojaaGreatDoorSOaPmPunSrtC
set_option linter.all false
set_option maxHeartbeats 8000000
set_option maxRecDepth 100000
open Go.Proofs.Tryz
namespace Go.Proofs.YtblcoicaeeiojaaGreatDoor
open Go.RowKit Go.Sort
def Aub(l:List Int)(g cap F N K:Nat)(w0:World)(bb:J0 l F g w0)(cl:N<=1099511627776)(bd:P4 l g cap F N K w0)(a m b:Nat)(d:Array Int)(w:World)(cr:b<=a+(K+1))(iY:Hid (d.size=N))(bl:w0.grownBy w (some g))(bs:DT l d)(bt:AI w g cap d)(dn:DS l a m b d)(cs:a<m)(ct:m<b)(a':a+2<=m)(be:m+2<=b)(G:(a+b)/2<m):Calls prog 292 #[.slice (some ⟨g,0,none⟩) N cap,.int .i64 a,.int .i64 m,.int .i64 b,.func (.func 245) #[] #[.pointer (some ⟨F,0,none⟩)]] w (II g cap d (λhQ=>PermIn a b d hQ/\SortedIn (AK l) a b hQ) w):=by
 have cp:=U bb;have jv:=U bl;have bv:=U bs;have ca:=U bt;have ei:=U dn;have lG:=U bd;have lI:b<=N:=YY;clear bb bl bs bt dn bd;have cu:((m:Int)-(a:Int)==1)=false:=Ae;have cv:((b:Int)-(m:Int)==1)=false:=Ae;obtain⟨q,bx,L⟩:∃q bx,KE a m b=(q,bx):=⟨_,_,rfl⟩;obtain⟨cy,cA,cB,cb,cc,ac,am⟩:=AgD L a' be;have lK:=U L;obtain⟨c,a9⟩:∃c,(a+b)/2=c:=⟨_,rfl⟩;have cD:((a:Int)+(b:Int))/2=(c:Int):=O;rw[a9]at cb cc ac am G;have cd:=G;clear G;have lH:=U a9;have cF:a+2<=c:=O;have cI:c+2<=b:=O;have cO:2*c<=a+b:=O;have c2:a+b<=2*c+1:=O;clear a9 L;have b0:=U ac;have ce:=U am;clear ac am;obtain⟨cf,cg⟩:=b0.out cd;have c3:(c:Int)+(m:Int)-(b:Int)=(q:Int):=O;obtain rfl:=cg.symm;clear cf b0 ce;go_enter func292,ntmps292;go_wp2;go_loopw[20,21] (λu v wr=>∃s r:Nat,u=.int .i64 s/\v=.int .i64 r/\q<=s/\s<=r/\r<=c/\Hid (q<s->AK l d[c+m-1-(s-1)]! d[s-1]! = false)/\Hid (r<c->AK l d[c+m-1-r]! d[r]! = true)/\Hid (AI wr g cap d)/\Hid (w.grownBy wr (some g))) (λu v _=>(intOf v).toNat-(intOf u).toNat)
 case atStart=>exact⟨q,c,rfl,rfl,Ac _,O,Ac _,λh=>O,λh=>O,ca,Ln _ _⟩
 case round=>
  obtain⟨s,r,rfl,rfl,lE,c4,lF,cC,dK,jw,dy⟩:=hrel;by_cases c5:s<r
  ·obtain⟨h,ci⟩:∃h,(s+r)/2=h:=⟨_,rfl⟩;have c6:s<=h:=O;have c7:h<r:=O;obtain⟨p,b1⟩:∃p,c+m-1-h=p:=⟨_,rfl⟩;have cj:m<=p:=O;have cm:p<b:=O;have co:=jw.out.cell (i:=p) Hk;have cq:=jw.out.cell (i:=h) Hk;obtain⟨x,A⟩:∃x,d[p]! = x:=⟨_,rfl⟩;obtain⟨y,C⟩:∃y,d[h]! = y:=⟨_,rfl⟩;have b2:=bv.out p Hk;have b3:=bv.out h Hk;have fV:=ei.out.cmp (show a<=h by omega) (show h<m by omega) cj cm;rw[A,C]at fV;rw[A]at co b2;rw[C]at cq b3;obtain⟨js,ju⟩:=b2;obtain⟨jx,jy⟩:=b3;have c8:((s:Int)+(r:Int))/2=(h:Int):=O;have c9:(c:Int)+(m:Int)-1-(h:Int)=(p:Int):=O;have b4:=U A;have b6:=U C;have b7:=U b1;have c':p<N:=O;have da:h<N:=O;clear A C ci b1;by_cases eY:Gz l x y<0
   ·have cx:Hid (h<c->AK l d[c+m-1-h]! d[h]! = true):=λ_=>by rw[b7.out,b4.out,b6.out];exact fV.1 eY
    exact AxR
   ·have iO:Hid (q<h+1->AK l d[c+m-1-(h+1-1)]! d[h+1-1]! = false):=λ_=>by
     rw[PR,b7.out,b4.out,b6.out];exact Z8
    exact AxQ
  ·exact AAN
theorem AgE(l:List Int)(g cap c N:Nat)(w0:World)(e:J0 l c g w0)(h:N<=1099511627776):∀K,P4 l g cap c N K w0
 | 0=>λa m b d w k _ _ _ _ _ q s=>O
 | K+1=>λa m b d w k A C F G L q s=>by
  have ac:=AgE l g cap c N w0 e h K;by_cases am:m=a+1
  ·exact At' l g cap c N K w0 e h ac a m b d w k A C F G L q s am
  ·by_cases a9:b=m+1
   ·exact Auc l g cap c N K w0 e h ac a m b d w k A C F G L q s a9 O
   ·by_cases ad:(a+b)/2<m
    ·exact Aub l g cap c N K w0 e h ac a m b d w k A C F G L q s O O ad
    ·exact Aua l g cap c N K w0 e h ac a m b d w k A C F G L q s O O ad
def PY(t N:Nat)(d:Array Int):Prop:=∀i j,i<t->t<=j->j<N->d[i]! < d[j]!
theorem PY.perm{t N a b:Nat}{d hQ:Array Int}(h:PY t N d)(c:PermIn a b d hQ)(G:d.size=N)(L:b<=N)(e:t<=a\/b<=t):PY t N hQ:=by
 intro i j m q s;rcases e with e|e
 ·rw[c.2.1 i (.inl O)];by_cases A:a<=j/\j<b
  ·exact permIn_all d hQ a b (λy=>d[i]! < y) O c (λk C F=>h i k m O O) j A.1 A.2
  ·rw[c.2.1 j O];exact h i j m q s
 ·rw[c.2.1 j (.inr O)];by_cases dI:a<=i/\i<b
  ·exact permIn_all d hQ a b (λy=>y<d[j]!) O c (λk C F=>h k j O q s) i dI.1 dI.2
  ·rw[c.2.1 i O];exact h i j m q s
structure GP (l:List Int) (N z c a:Nat) (d dk:Array Int):Prop where
 at_:a=c*z
 size:dk.size=N
 aO:∀k,k<c->SortedIn (AK l) (k*z) (k*z+z) dk
 same:∀i,a<=i->dk[i]! = d[i]!
 cut:∀k,PY (k*z) N dk
 perm:PermIn 0 N d dk
def Aec{z k c:Nat}:k*z<=c*z\/c*z+z<=k*z:=by
 rcases Ie c k with h|h
 ·right;have:=JX z (show c+1<=k from h);exact Zm
 ·exact .inl (JX z h)
theorem GP.step{l:List Int}{N z c a:Nat}{d m hQ:Array Int}(h:GP l N z c a d m)(C:d.size=N)(q:a+z<=N)(b:PermIn a (a+z) m hQ)(s:SortedIn (AK l) a (a+z) hQ):GP l N z (c+1) (a+z) d hQ where
 at_:=by rw[Sx,<-h.at_]
 size:=by rw[b.1];exact h.size
 aO k F:=by
  by_cases e:k=c
  ·subst e;rw[<-h.at_];exact s
  ·have A:=h.aO k O;have G:k*z+z<=a:=by
    rw[h.at_];have:=JX z (show k+1<=c by omega);exact Zm
   exact SortedIn.congr A (λi _ dI=>b.2.1 i (.inl O))
 same i dI:=by rw[b.2.1 i (.inr dI)];exact h.same i O
 cut k:=(h.cut k).perm b h.size q (by rw[h.at_];exact Aec)
 perm:=I' _ _ _ _ _ h.perm (I9 m hQ a (a+z) 0 N (Au _) q (by rw[h.size];exact Ac _) b)
structure IG (l:List Int) (N z:Nat) (d0 d:Array Int):Prop where
 size:d.size=N
 aO:∀k,SortedIn (AK l) (k*z) (min N (k*z+z)) d
 cut:∀k,PY (k*z) N d
 perm:PermIn 0 N d0 d
theorem GP.done{l:List Int}{N z c a:Nat}{d m hQ:Array Int}(h:GP l N z c a d m)(C:d.size=N)(F:N<a+z)(b:PermIn a N m hQ)(q:SortedIn (AK l) a N hQ):IG l N z d hQ where
 size:=by rw[b.1];exact h.size
 aO k:=by
  rcases Nat.lt_trichotomy k c with e|e|e
  ·have s:=h.aO k e;have A:k*z+z<=a:=by
    rw[h.at_];have:=JX z (show k+1<=c from e);exact Zm
   exact SortedIn.mono (SortedIn.congr s (λi _ dI=>b.2.1 i (.inl O))) (Ac _) O
  ·subst e;rw[<-h.at_];exact SortedIn.mono q (Ac _) O
  ·have A:a+z<=k*z:=by
    rw[h.at_];have:=JX z (show c+1<=k from e);exact Zm
   intro i j G L ac;omega
 cut k:=(h.cut k).perm b h.size (Ac N) (by
  rcases(Aec:k*z<=c*z\/c*z+z<=k*z)with e|e
  ·left;rw[h.at_];exact e
  ·right;rw[<-h.at_]at e;omega)
 perm:=I' _ _ _ _ _ h.perm (I9 m hQ a N 0 N (Au _) (Ac N) (by rw[h.size];exact Ac _) b)
theorem IG.pass{l:List Int}{N z:Nat}{b d:Array Int}(h:IG l N z b d):GP l N (2*z) 0 0 d d where
 at_:=O
 size:=h.size
 aO k c:=O
 same i _:=rfl
 cut k:=by have:=h.cut (k*2);rwa[Sr]at this
 perm:=I_ d 0 N
theorem GP.merge{l:List Int}{N z c a b:Nat}{m d k:Array Int}(ad:IG l N z m d)(h:GP l N (2*z) c a d k)(q:a+z<=b)(s:b<=N)(G:b<=a+2*z):DS l a (a+z) b k where
 am:=O
 mb:=q
 size:=by rw[h.size];exact s
 left:=Ayy;right:=by
  have e:a+z=(c*2+1)*z:=by rw[Sx,Sr];rw[<-h.at_]
  have:=ad.aO (c*2+1);rw[<-e]at this;exact SortedIn.congr (SortedIn.mono this (Ac _) O) (λi dI _=>h.same i O)
 aX i j A C F L:=by
  have e:a+z=(c*2+1)*z:=by rw[Sx,Sr];rw[<-h.at_]
  have:=ad.cut (c*2+1) i j (by rw[<-e];exact C) (by rw[<-e];exact F) O;rw[h.same i A,h.same j O];exact this
theorem GP.rest{l:List Int}{N z c a:Nat}{k d b:Array Int}(ad:IG l N z k d)(h:GP l N (2*z) c a d b)(m:N<=a+z):SortedIn (AK l) a N b:=Ayy
theorem IG.trans{l:List Int}{N z:Nat}{b d hQ:Array Int}(h:IG l N z d hQ)(c:PermIn 0 N b d):IG l N z b hQ:=⟨h.size,h.aO,h.cut,I' _ _ _ _ _ c h.perm⟩
def ArE(l:List Int)(g cap bd N:Nat)(d:Array Int)(w0 w:World)(b9:J0 l bd g w0)(b3:w0.grownBy w (some g))(co:DT l d)(cp:AI w g cap d)(F:Hid (d.size=N))(b':N<=1099511627776)(cq:∀i j,i<j->j<N->d[i]! < d[j]!):Calls prog 278 #[.slice (some ⟨g,0,none⟩) N cap,.int .i64 N,.func (.func 245) #[] #[.pointer (some ⟨bd,0,none⟩)]] w (II g cap d (λhQ=>PermIn 0 N d hQ/\SortedIn (AK l) 0 N hQ) w):=by
 have cr:=U b9;have b4:=U b3;have cs:=U co;have cA:=U cp;have ct:=U cq;have cu:=U (AgE l g cap bd N w0 b9 b' N);clear b9 b3 co cp cq;go_enter func278,ntmps278;go_wp2;go_loopw[7,8] (λu v wr=>∃(c a:Nat) (e:Array Int),u=.int .i64 a/\v=.int .i64 ((a:Int)+20)/\a<=N/\Hid (GP l N 20 c a d e)/\Hid (AI wr g cap e)/\Hid (w.grownBy wr (some g))) (λu _ _=>N-(intOf u).toNat)
 case atStart=>exact⟨0,0,d,rfl,rfl,Au _,⟨O,F.out,λk c5=>O,λi _=>rfl,λk i j G L ac=>ct.out i j O ac,I_ d 0 N⟩,cA,Ln _ _⟩
 case round=>
  obtain⟨c,a,e,rfl,rfl,cv,h,ad,A⟩:=hrel;have am:Hid (DT l e):=cs.out.perm h.out.perm (by rw[F.out];exact Ac N);have a9:Hid (e.size=N):=h.out.size;have ca:Hid (∀i j,a<=i->i<j->j<N->e[i]! < e[j]!):=λi j G L ac=>by rw[h.out.same i G,h.out.same j O];exact ct.out i j L ac
  by_cases b5:a+20<=N
  ·obtain⟨b,be⟩:∃b,a+20=b:=⟨_,rfl⟩;have cB:(a:Int)+20=(b:Int):=O;have C:b<=N:=O;have b1:=U be;clear be b5;go_wp2_with fail;refine(Ac5 N l g cap bd a b e w0 _ a9 cr.out (A5 b4.out A.out) am.out ad.out b' Aii C (λi j G L ac=>ca.out i j G L O)).mono ?_;rintro cb w1 ⟨rfl,bl,bs,b6,⟨a',ba⟩,bt⟩;have cc:=U bs;have cC:Hid (GP l N 20 (c+1) b d bl):=by
    unfold Hid;rw[<-b1.out];rw[<-b1.out]at a' ba;exact h.out.step F.out (by rw[b1.out];exact C) a' ba
   have cd:=U (A5 A.out bt);have cD:a<b:=Aii;clear bs b6 a' ba bt;go_wp2;go_roundw
   case rel=>exact⟨c+1,b,bl,rfl,rfl,C,cC,cc,cd⟩
   case measure=>simp[intOf];omega
  ·have cx:¬((a:Int)+20<=(N:Int)):=by omega
   go_wp2_with fail;refine(Ac5 N l g cap bd a N e w0 _ a9 cr.out (A5 b4.out A.out) am.out ad.out b' cv (Ac N) (λi j G L ac=>ca.out i j G L ac)).mono ?_;rintro cb w1 ⟨rfl,bl,bs,b6,⟨a',ba⟩,bt⟩;have cc:=U bs;have cF:Hid (IG l N 20 d bl):=h.out.done F.out O a' ba;have cd:=U (A5 A.out bt);clear bs b6 a' ba bt h ad A cx b5 ca am a9;go_wp2;go_loopw[6] (λu wr=>∃(z:Nat) (q:Array Int),u=.int .i64 z/\20<=z/\z<=2*N+20/\Hid (IG l N z d q)/\Hid (AI wr g cap q)/\Hid (w.grownBy wr (some g))) (λu _=>N-(intOf u).toNat)
   case atStart=>exact⟨20,bl,rfl,Ac _,O,cF,cc,cd⟩
   case round=>
    obtain⟨z,q,rfl,b6,c6,s,ad,A⟩:=hrel;by_cases c7:z<N
    ·obtain⟨y,ce⟩:∃y,2*z=y:=⟨_,rfl⟩;have c8:2*(z:Int)=(y:Int):=O;have c9:(z:Int)*2=(y:Int):=O;have b7:=U ce;have c':z<y:=O;have da:y<=2*N+20:=O;have cI:Hid (GP l N y 0 0 q q):=by unfold Hid;rw[<-ce];exact s.out.pass
     have b8:Hid (q.size=N):=s.out.size;clear ce;have cO:=ad;have b3:=A;go_wp2;go_loopw[7,8] (λu v wr=>∃(c a:Nat) (e:Array Int),u=.int .i64 a/\v=.int .i64 ((a:Int)+(y:Int))/\a<=N/\Hid (GP l N y c a q e)/\Hid (AI wr g cap e)/\Hid (w.grownBy wr (some g))) (λu _ _=>N-(intOf u).toNat)
     case atStart=>exact⟨0,0,q,rfl,J,Au _,cI,cO,b3⟩
     case round=>
      obtain⟨c,a,e,rfl,rfl,cv,h,cf,bv⟩:=hrel;have cg:Hid (GP l N (2*z) c a q e):=by unfold Hid;rw[b7.out];exact h.out
      have am:Hid (DT l e):=(cs.out.perm s.out.perm (by rw[F.out];exact Ac N)).perm h.out.perm (by rw[b8.out];exact Ac N);have a9:Hid (e.size=N):=h.out.size;obtain⟨m,cy⟩:∃m,a+z=m:=⟨_,rfl⟩;have db:(a:Int)+(z:Int)=(m:Int):=O;have ei:=U cy;clear cy;by_cases b5:a+y<=N
      ·obtain⟨b,be⟩:∃b,a+y=b:=⟨_,rfl⟩;have cB:(a:Int)+(y:Int)=(b:Int):=O;have C:b<=N:=O;have b1:=U be;clear be b5;go_wp2_with fail;refine(cu.out a m b e _ O a9 (A5 b4.out bv.out) am.out cf.out (by have:=b1.out;have:=b7.out;rw[<-ei.out];exact cg.out.merge s.out O C O) UF (by have:=ei.out;have:=b1.out;have:=b7.out;omega)).mono ?_;rintro cb w2 ⟨rfl,bx,b0,ci,⟨bb,bc⟩,b2⟩;have cj:=U b0;have c2:Hid (GP l N y (c+1) b q bx):=by
        unfold Hid;rw[<-b1.out];rw[<-b1.out]at bb bc;exact h.out.step b8.out (by rw[b1.out];exact C) bb bc
       have cl:=U (A5 bv.out b2);have cD:a<b:=Aii;clear b0 ci bb bc b2;go_wp2;go_roundw
       case rel=>exact⟨c+1,b,bx,rfl,rfl,C,c2,cj,cl⟩
       case measure=>simp[intOf];omega
      ·have cx:¬((a:Int)+(y:Int)<=(N:Int)):=by omega
       by_cases c3:m<N
       ·go_wp2_with fail;refine(cu.out a m N e _ O a9 (A5 b4.out bv.out) am.out cf.out (by have:=b7.out;have:=ei.out;rw[<-ei.out];exact cg.out.merge s.out O (Ac N) O) UF c3).mono ?_;rintro cb w2 ⟨rfl,bx,b0,ci,⟨bb,bc⟩,b2⟩;have cj:=U b0;have cm:Hid (IG l N y d bx):=(h.out.done b8.out O bb bc).trans s.out.perm;have cl:=U (A5 bv.out b2);clear b0 ci bb bc b2;go_wp2;go_roundw
        case rel=>exact⟨y,bx,rfl,O,O,cm,cj,cl⟩
        case measure=>simp[intOf];omega
       ·have cm:Hid (IG l N y d e):=(h.out.done b8.out O (I_ e a N) (cg.out.rest s.out UF)).trans s.out.perm;go_wp2;go_roundw
        case rel=>exact⟨y,e,rfl,O,O,cm,cf.out,bv.out⟩
        case measure=>simp[intOf];omega
    ·have c4:Hid (SortedIn (AK l) 0 N q):=by
      have:=s.out.aO 0;rw[Nat.zero_mul,BY,K_ O]at this;exact this
     go_wp2;go_end0;exact⟨rfl,q,ad.out,by rw[s.out.size,F.out],⟨s.out.perm,c4.out⟩,A.out⟩
def AtM(l:List Int)(g cap b N:Nat)(d:Array Int)(w0 w:World)(c:J0 l b g w0)(e:w0.grownBy w (some g))(k:DT l d)(m:AI w g cap d)(s:Hid (d.size=N))(A:N<=1099511627776)(q:∀i j,i<j->j<N->d[i]! < d[j]!):Calls prog 244 #[.slice (some ⟨g,0,none⟩) N cap,.func (.func 245) #[] #[.pointer (some ⟨b,0,none⟩)]] w (II g cap d (λhQ=>PermIn 0 N d hQ/\SortedIn (AK l) 0 N hQ) w):=by
 have C:=U (ArE l g cap b N d w0 w c e k m s A q);clear c e k m q;go_enter func244,ntmps244;go_wp2_with fail;refine C.out.mono ?_;rintro G w1 ⟨rfl,F,h⟩;go_wp2;go_end0;exact⟨rfl,F,h⟩
def An6(F:Value)(w:World):Calls prog 291 #[.slice none 0 0,.int .i64 0,.int .i64 0,F] w λe w'=>e=.returned (.tuple #[])/\w'=w:=by
 go_enter func291,ntmps291;go_wp2;go_loopw[8] (λu wr=>u=.int .i64 1/\wr=w) (λ_ _=>0)
 case atStart=>exact⟨rfl,rfl⟩
 case round=>
  exact Azr
def ArF(F:Value)(w:World):Calls prog 278 #[.slice none 0 0,.int .i64 0,F] w λe w'=>e=.returned (.tuple #[])/\w'=w:=by
 go_enter func278,ntmps278;go_wp2;go_loopw[7,8] (λu v wr=>u=.int .i64 0/\v=.int .i64 20/\wr=w) (λ_ _ _=>0)
 case atStart=>exact⟨rfl,rfl,rfl⟩
 case round=>
  obtain⟨rfl,rfl,rfl⟩:=hrel;go_wp2_with fail;refine(An6 F _).mono ?_;rintro b w1 ⟨rfl,rfl⟩;go_wp2;go_loopw[6] (λu wr=>u=.int .i64 20/\wr=w1) (λ_ _=>0)
  case atStart=>exact⟨rfl,rfl⟩
  case round=>
   exact Azr
def AtN(F:Value)(w:World):Calls prog 244 #[.slice none 0 0,F] w λe w'=>e=.returned (.tuple #[])/\w'=w:=by
 go_enter func244,ntmps244;go_wp2_with fail;refine(ArF F _).mono ?_;rintro b w1 ⟨rfl,rfl⟩;go_wp2;go_end0;exact C5
def Wy{w:World}{p:Option Addr}{l:List Int}(h:Aq w p l)(n:Nat):Aq (w.drewN n) p l:=h
theorem Ak.cap{w:World}{B:Nat}{v:Value}{ao:List Int}(h:Ak w B v ao):∃p cap,v=.slice p ao.length cap/\Aq w p ao/\ao.length<=cap/\(∀b ff,p=some ⟨b,ff,none⟩->B<=b/\b<w.heap.size):=by
 obtain⟨p,cap,e,c⟩:=h.ap;obtain⟨F,k⟩:=h;rcases k with⟨rfl,G⟩|⟨g,L,ac,rfl,m,q,bx,ad,am,a9⟩
 ·injection e with s A C;subst s;exact⟨none,cap,by rw[<-A,<-C],c,O,λb ff e=>by cases e⟩
 ·cases e;refine⟨_,_,rfl,c,UO,λb ff e=>?_⟩;cases e;exact⟨m,(EM.1 q).1⟩
def Vu(l:List Int)(I:List Nat):Prop:=(∀a,a∈I↔a<l.length/\Cj (l.getD a 0)=false)/\I.Pairwise (λx y:Nat=>AK l x y=true)
def AnT{l:List Int}(h:C3 l l.length=[]):Vu l []:=by
 refine⟨λa=>⟨λh=>Ds,λ⟨b,c⟩=>?_⟩,List.Pairwise.nil⟩;have:(a:Int)∈C3 l l.length:=(OM l _ _).2 ⟨a,b,rfl,c⟩;rw[h]at this;cases this
def AjL(l:List Int)(w:World)(e:Ending)(w':World):Prop:=
 ∃(I:List Nat) (v:Value),e=.returned v/\Vu l I/\Ak w' w.heap.size v (I.map (λa:Nat=>(a:Int)))/\Below w.heap.size w w'
def AqN(p:Option Addr)(n cap:Nat)(l:List Int)(w:World)(b4:Aq w p l)(bx:Hid (l.length=n))(dz:n<=4096):Calls prog 175 #[.slice p n cap] w (AjL l w):=by
 have bb:=U b4;have F:Hid (Below w.heap.size w (w.alloc (.cells #[.slice p n cap] 22))):=(Al w.heap.size w).alloc (Ac _) _;obtain⟨co,dI,cp,cq,cr⟩:=Cp info3;have G:(w.alloc (.cells #[.slice p n cap] 22)).cell? ⟨w.heap.size,0,none⟩=some (.slice p n cap):=EL;have bc:=U G;have L:Hid ((w.alloc (.cells #[.slice p n cap] 22)).heap.size=w.heap.size+1):=Zu;clear b4 G;go_enter func175,ntmps175;go_upto_region 2 with(fail);generalize w.alloc (.cells #[.slice p n cap] 22)=bd at F bc L|-;have G:=bc.out;go_wp2;go_loopw[3,8] (λvv u wr=>∃k:Nat,u=.int .i64 k/\k<=n/\Hid (Ak wr (w.heap.size+1) vv (C3 l k))/\Hid (C3 l k=[]->vv=.slice none 0 0)/\Hid (bd.grownBy wr none)) (λ_ u _=>n-(intOf u).toNat)
 case atStart=>exact⟨0,rfl,Au _,Ak.nil _ _,λ_=>rfl,QS _ _⟩
 case round=>
  clear G;obtain⟨k,rfl,dE,A,ac,m⟩:=hrel;by_cases cs:k<n
  ·have b5:k<l.length:=by rw[bx.out];exact cs
   obtain⟨b,ff,rfl,ct⟩:=((bb.out.below F.out).bz m.out) k b5;obtain⟨x,be⟩:∃x,l.getD k 0=x:=⟨_,rfl⟩;rw[be]at ct;have h:Hid (C3 l (k+1)=if Cj x=true then C3 l k else C3 l k++[(k:Int)]):=by unfold Hid;rw[C3,be]
   have b6:=U (Xq l k);have cu:=U m.out.size;clear be b5;cases s:Cj x with
   | true =>
    have bl:=U s;rw[s]at h;have cv:Hid (Ak wr (w.heap.size+1) u3 (C3 l (k+1))):=by unfold Hid;rw[h.out];exact A.out
    have cx:Hid (C3 l (k+1)=[]->u3=.slice none 0 0):=by unfold Hid;rw[h.out];exact ac.out
    clear s;go_wp2_with (go_at_call 243;refine(OC x true _ bl).mono ?_;rintro e w1 ⟨rfl,rfl⟩);go_roundw
    case rel=>exact⟨k+1,An,O,cv,cx,m.out⟩
    case measure=>simp[intOf];omega
   | false =>
    have bl:=U s;rw[s]at h;have bs:=A.out;unfold Ak at bs;have b7:=U bs;clear s bs;go_wp2_with (first
     | (go_at_call 243;refine(OC x false _ bl).mono ?_;rintro e w1 ⟨rfl,rfl⟩)
     | (at_builtin;refine ID _ rfl _ _ 22 rfl (w.heap.size+1) 3 co (.int .i64 0) 1 8 underlying22 dI cp cq cr rfl Aw _ _ _ rfl (b7.out.alloc _) ⟨_,0,none⟩ 1 1 [.int .i64 k] rfl rfl (IB _ _ _) ?c2 ?c3 ?c4 ?c5 ?_))
    case c2=>intro u b8;simp at b8;subst b8;rfl
    case c3=>have:=b6.out;unfold maxLen;omega
    case c4=>have:=b6.out;omega
    case c5=>have:=cu.out;have:=L.out;simp;omega
    intro b9 b' ca cb _;have cy:Hid (Ak b' (w.heap.size+1) b9 (C3 l (k+1))):=by unfold Hid;rw[h.out];unfold Ak;simpa using ca
    have cA:Hid (C3 l (k+1)=[]->b9=.slice none 0 0):=by unfold Hid;rw[h.out];intro e;simp at e
    have cB:Hid (bd.grownBy b' none):=by
     have bt:bd.grownBy (World.alloc _ _) none:=A5 m.out (GJ _ (.cells #[.int .i64 k] 3) none);refine XQ bt cb ?_;intro j ed _ e;have:=(b7.out.lt j e).1;have:=L.out;omega
    clear ca cb;go_wp2;go_roundw
    case rel=>exact⟨k+1,An,O,cy,cA,cB⟩
    case measure=>simp[intOf];omega
  ·obtain rfl:k=n:=by omega
   have h:Hid (Ak wr (w.heap.size+1) u3 (C3 l l.length)):=by rw[bx.out];exact A
   have bv:Hid (C3 l l.length=[]->u3=.slice none 0 0):=by rw[bx.out];exact ac
   have b0:Hid (Below w.heap.size w wr):=F.out.grown m.out (by have:=L.out;omega) J;by_cases q:C3 l l.length=[]
   ·obtain rfl:=bv.out q;have cC:=U (AnT q);clear q bv h A ac;go_wp2_with fail;refine(AtN _ _).mono ?_;rintro cF b1 ⟨rfl,rfl⟩;go_wp2;go_ret;exact⟨[],_,rfl,cC.out,Ak.nil _ _,b0.out⟩
   ·obtain⟨g,cc,e,dF,cI,b2⟩:=AI.bj h.out q;subst e;obtain⟨d,ad⟩:∃d,(C3 l l.length).toArray=d:=⟨_,rfl⟩;have am:d.toList=C3 l l.length:=by rw[<-ad]
    have b3:d.size=(C3 l l.length).length:=by rw[<-ad];simp
    rw[ad]at b2;obtain⟨N,a9⟩:∃N,d.size=N:=⟨_,rfl⟩;have a':=U a9;have cO:=Xq l l.length;have c6:Hid (DT l d):=by
     intro i c7;have c8:d[i]!∈C3 l l.length:=by rw[<-am,JZ d i c7];simp
     obtain⟨a,a1,a2,_⟩:=(OM l _ _).1 c8;rw[a2];omega
    have c9:Hid (∀i j,i<j->j<N->d[i]! < d[j]!):=by
     intro i j c' ed;rw[<-a9]at ed;have:=Aat.1 (TN l l.length);rw[<-am]at this;have cD:=this i j Ae Zv c';rw[JZ d i O,JZ d j ed];exact MH
    have da:Hid (J0 l w.heap.size g wr):=by
     intro W cd x y c bt db cD dc df;refine Alh l p cap w.heap.size W ?_ ?_ Zn x y c bt db cD dc df
     ·rw[bx.out];exact cd.cell (m.out.cell bc.out J) Ae
     ·refine((bb.out.below F.out).bz m.out).grown cd ?_;intro b ff e;intro ba;subst ba;by_cases dj:0<l.length
      ·obtain⟨dG,dH,C,dk⟩:=bb.out 0 dj;rw[e]at C;cases C;have:=AN w _ dk;simp only at this;omega
      ·have:l=[]:=Bw O;rw[this]at q;exact q rfl
    have dm:=U b2;have dn:=U am;have dJ:=U b3;have dq:N<=1099511627776:=UL;rw[<-b3,a9];have ce:w.heap.size<=g:=O;clear ad am b3 b2 cO q bv A ac h a9;go_wp2_with fail;refine(AtM l g cc w.heap.size N d wr wr da.out (QS _ _) c6.out dm.out a' dq c9.out).mono ?_;rintro cF b1 ⟨rfl,hQ,cf,cg,⟨ci,cj⟩,cl⟩;obtain⟨I,cm,ba,C⟩:=AtO l dn.out (by rw[a'.out];exact ci) (by rw[a'.out];exact cj);have ds:Hid (Ak b1 w.heap.size (.slice (some ⟨g,0,none⟩) N cc) (I.map (λa:Nat=>(a:Int)))):=by
     unfold Hid;rw[<-cm,<-a'.out,<-cg];exact cf.cn ce cI
    have dx:Hid (Below w.heap.size w b1):=b0.out.grown cl b0.out.size (by rintro j ⟨⟩;exact ce);have dy:Hid (Vu l I):=⟨ba,C⟩;clear cf cg ci cj cl cm ba C;go_wp2;go_ret;exact⟨I,_,rfl,dy.out,ds.out,dx.out⟩
def Xs{b gs n c:Nat}(h:b<gs):(Value.slice (some ⟨b,0,none⟩) n c).ownBlock≠some gs:=by
 intro e;have:b=gs:=by simpa[Value.ownBlock] using e
 omega
structure Jg (w0 w:World) (gs:Nat) (p:Option Addr) (ls:List Int) (vv:Value) (zs:List Int) (n:Int) (i P b:Nat) (later:Bool):Prop where
 st:Ik w gs n i P b later
 own:BC w w0.heap.size vv zs
 idx:Aq w p ls
 ab:Below w0.heap.size w0 w
 aM:w0.heap.size<=gs
 aY:gs<w.heap.size
 off:vv.ownBlock≠some gs
 aS:∀b off,p=some ⟨b,off,none⟩->vv.ownBlock≠some b/\b≠gs/\b<w.heap.size
theorem Jg.drewN{w0 w:World}{gs:Nat}{p:Option Addr}{c:List Int}{vv:Value}{ao:List Int}{n:Int}{i P b:Nat}{later:Bool}(h:Jg w0 w gs p c vv ao n i P b later)(m:Nat):Jg w0 (w.drewN m) gs p c vv ao n i P b later:=
 ⟨h.st.drewN m,h.own.kept (Em (QS w none) m) h.own.block,Wy h.idx m,EO h.ab m,h.aM,h.aY,h.off,h.aS⟩
theorem Jg.aI{w0 w w': World}{gs: Nat}{p: Option Addr}{q: List Int}{vv m: Value}{ao s: List Int}{n: Int}{i P b: Nat}{later: Bool}(h: Jg w0 w gs p q vv ao n i P b later)
  (C:BC w' w0.heap.size m s) (c:w.grownBy w' vv.ownBlock) (A:∀k,k<w.heap.size->vv.ownBlock≠some k->m.ownBlock≠some k):Jg w0 w' gs p q m s n i P b later where
 st:=F5.grown h.st c h.off
 own:=C
 idx:=by
  intro k F;obtain⟨b,ff,e,G⟩:=h.idx k F;exact⟨b,ff,e,c.cell G (JY (h.aS b ff e).1)⟩
 ab:=h.ab.grown c h.ab.size (λj L=>h.own.base j L)
 aM:=h.aM
 aY:=Ci h.aY c.size
 off:=A gs h.aY h.off
 aS b ff e:=by
  obtain⟨a1,a2,a3⟩:=h.aS b ff e;exact⟨A b a3 a1,a2,Ci a3 c.size⟩
theorem Jg.put{w0 w w': World}{gs: Nat}{p: Option Addr}{k: List Int}{vv: Value}{ao: List Int}{n m: Int}{i P b q s A: Nat}{later C: Bool}(h: Jg w0 w gs p k vv ao n i P b later)
  (F:Ik w' gs m q s A C) (c:w.grownBy w' (some gs)):Jg w0 w' gs p k vv ao m q s A C where
 st:=F
 own:=h.own.kept c h.off
 idx:=h.idx.grown c (λb ff e=>(h.aS b ff e).2.1)
 ab:=h.ab.grown c h.ab.size (by rintro j ⟨⟩;exact h.aM)
 aM:=h.aM
 aY:=Ci h.aY c.size
 off:=h.off
 aS b ff e:=by
  obtain⟨a1,a2,a3⟩:=h.aS b ff e;exact⟨a1,a2,Ci a3 c.size⟩
def P2(X:ByteArray)(b:Int)(w:World)(e:Ending)(w':World):Prop:=e=.returned (.tuple #[.string X,.int .i64 b])/\Below w.heap.size w w'
def AcB{l:List Int}(h:256<l.length):Dk l=([],7):=by unfold Dk;rw[N h]
def Acz{l:List Int}(h:l.length<=256)(b:l.all BO=false):Dk l=([],3):=by unfold Dk;rw[V O,N b]
def AaX{l:List Int}{k:Nat}(ba:k<l.length)(h:BO (l.getD k 0)=false):l.all BO=false:=by
 rw[List.all_eq_false];exact⟨l.getD k 0,Gc,by rw[h];simp⟩
def AeK{l:List Int}{k:Nat}(b:k<l.length)(h:(l.take k).all BO=true)(c:BO (l.getD k 0)=true):(l.take (k+1)).all BO=true:=by
 rw[C4 l k b,IE,h];simp only[DQ,Gf,c];rfl
def XD(p:Option Addr)(n cap:Nat)(l X:List Int)(cj:Int)(S:ByteArray)(w:World)(c4:Aq w p l)(s:Hid (l.length=n))(d1:n<=cap)(et:n<=17592186043904)(a':Hid (Dk l=(X,cj)))(bt:Hid (strOfNums X=S)):Calls prog 114 #[.slice p n cap] w (P2 S cj w):=by
 have bv:=Lib.hid c4
 clear c4
 by_cases c5:256<n
 ·have bx:=a'.out
  rw[AcB (by rw[s.out];exact c5)]at bx
  injection bx with ba C
  subst ba;subst C
  have cl:Hid (S=ByteArray.mk #[]):=bt.out.symm
  clear a' bt
  go_enter func114,ntmps114
  go_wp2
  go_ret2
  exact⟨by rw[cl.out];rfl,Below.refl _ _⟩
 have c6:n<=256:=by omega
 clear c5
 go_enter func114,ntmps114
 go_wp2
 go_loopw[16] (λu wr=>∃k:Nat,u=.int .i64 k/\k<=n/\Hid ((l.take k).all BO=true)/\wr=w) (λu _=>n-(intOf u).toNat)
 case atStart=>exact⟨0,rfl,Nat.zero_le _,rfl,rfl⟩
 case round=>
  obtain⟨k,rfl,eu,L,rfl⟩:=hrel
  by_cases b0:k<n
  ·have b1:k<l.length:=by rw[s.out];exact b0
   obtain⟨b,ff,rfl,d2⟩:=bv.out k b1
   obtain⟨x,F⟩:∃x,l.getD k 0=x:=⟨_,rfl⟩
   rw[F]at d2
   cases bb:BO x with
   | true =>
    have b6:Hid ((l.take (k+1)).all BO=true):=AeK b1 L.out (by rw[F];exact bb)
    have cm:=Lib.hid bb
    clear F b1 bb L
    go_wp2_with fail
    refine(AdH x _ cm.out).mono ?_
    rintro bc w1 ⟨⟨m,ev,ew,rfl⟩,rfl⟩
    have ex:((m:Int)==0)=false:=by simp;omega
    go_wp2
    go_roundw
    case rel=>exact⟨k+1,by go_num,by omega,b6,by first|rfl|trivial⟩
    case measure=>simp[intOf];omega
   | false =>
    have bx:=a'.out
    rw[Acz (by rw[s.out];exact c6) (AaX b1 (by rw[F];exact bb))]at bx
    injection bx with ba C
    subst ba;subst C
    have cl:Hid (S=ByteArray.mk #[]):=bt.out.symm
    have cm:=Lib.hid bb
    clear F b1 bb L a' bt
    go_wp2_with (go_at_call 74;refine(AdG x _ cm.out).mono ?_;rintro bc w1 ⟨rfl,rfl⟩)
    go_ret2
    exact⟨by rw[cl.out];rfl,Below.refl _ _⟩
  ·obtain rfl:k=n:=by omega
   have b6:Hid (l.all BO=true):=by have:=L.out;rwa[List.take_of_length_le (by rw[s.out];exact Nat.le_refl _)]at this
   have c7:Hid (∀c∈l,BO c=true):=List.all_eq_true.1 b6.out
   obtain⟨h,co⟩:∃h,Bm l=h:=⟨_,rfl⟩
   have ey:h.length<=k:=by rw[<-co,<-s.out];exact Ks _ _
   have cp:=Lib.hid co
   clear L co
   go_wp2_with fail
   refine(Aku p k cap l h _ bv.out s (by omega) c7 cp).mono ?_
   rintro bc w1 ⟨ez,rfl,cq,c8⟩
   obtain⟨d3,eA,eB,eC,rfl,c9,c',_⟩:=id cq
   have da:=(Array.getElem?_eq_some_iff.1 c').1
   have db:=Lib.hid cq
   have cr:=Lib.hid c8
   have eD:=Lib.hid c9
   have dc:=Lib.hid da
   clear cq c8 c9 da c'
   go_wp2_with fail
   refine(Ago h.length _).mono ?_
   rintro bc w2 ⟨rfl,b7⟩
   have df:=Lib.hid (db.out.below b7)
   have b8:=Lib.hid (cr.out.trans (b7.mono cr.out.size))
   have dj:=Lib.hid (Nat.lt_of_lt_of_le dc.out b7.size)
   clear b7 db cr dc
   have b2:=Lib.hid (F5.new w2 (.int .i64 128) (.int .i64 0) (.int .i64 h.length) (.int .i64 72) (.bool false) 155)
   have b3:=Lib.hid (df.out.alloc (.cells #[.int .i64 128,.int .i64 0,.int .i64 h.length,.int .i64 72,.bool false] 155))
   have bd:=Lib.hid (b8.out.alloc b8.out.size (.cells #[.int .i64 128,.int .i64 0,.int .i64 h.length,.int .i64 72,.bool false] 155))
   have be:Hid ((w2.alloc (.cells #[.int .i64 128,.int .i64 0,.int .i64 h.length,.int .i64 72,.bool false] 155)).heap.size=w2.heap.size+1):=by unfold Hid;simp
   obtain⟨gs,b4⟩:∃gs,w2.heap.size=gs:=⟨_,rfl⟩
   have eE:=Lib.hid b4
   have d4:Hid (wr.heap.size<=gs):=by unfold Hid;rw[<-b4];exact b8.out.size
   have b9:Hid (d3<gs):=by unfold Hid;rw[<-b4];exact dj.out
   clear df b8 dj
   go_upto_if 31 with(fail)
   generalize w2.alloc (.cells #[.int .i64 128,.int .i64 0,.int .i64 h.length,.int .i64 72,.bool false] 155)=eF at b2 b3 bd be|-
   rw[b4]at b2 be
   clear b4
   go_cut[6] (λc bl=>Hid (BC bl wr.heap.size c (DM h))/\Hid (Ik bl gs 128 0 h.length 72 false)/\Hid (Below wr.heap.size wr bl)/\Hid (c.ownBlock≠some gs)/\Hid (gs<bl.heap.size))
   case first=>
    by_cases dk:h.length=0
    ·have d5:decide (0<h.length)=false:=decide_eq_false (by omega)
     have eG:¬0<h.length:=by omega
     have cs:Hid (DM h=h):=by
      unfold Hid DM;rw[if_pos (List.eq_nil_of_length_eq_zero dk)];simp
     go_wp2
     go_meet
     exact⟨by rw[cs.out];exact b3,b2,bd,Xs b9.out,by have:=be.out;unfold Hid;omega⟩
    ·have d5:0<h.length:=by omega
     have cs:Hid (DM h=h++[45]):=by
      unfold Hid DM;rw[if_neg (λe=>dk (by rw[e];rfl))]
     have d6:=Lib.hid bd.out.size
     go_wp2_with (at_builtin;refine UA rfl _ _ rfl wr.heap.size _ h rfl b3.out 45 1 _ rfl rfl (by omega) d6.out ?_;intro v4 b' dm ca dn)
     have d7:Hid (BC b' wr.heap.size v4 (DM h)):=by unfold Hid;rw[cs.out];exact dm
     have d8:Hid (v4.ownBlock≠some gs):=dn gs (by have:=be.out;omega) (Xs b9.out)
     have d9:Hid (Ik b' gs 128 0 h.length 72 false):=F5.grown b2.out ca (Xs b9.out)
     have d_:Hid (Below wr.heap.size wr b'):=bd.out.grown ca bd.out.size (λj dq=>b3.out.base j dq)
     have d':Hid (gs<b'.heap.size):=Nat.lt_of_lt_of_le (by have:=be.out;omega) ca.size
     clear dm ca dn
     go_wp2
     go_meet
     exact⟨d7,d9,d_,d8,d'⟩
   case rest=>
    obtain⟨ct,q,cb,ds,cu⟩:=hcut
    go_wp2_with fail
    refine(AqN p k cap l _ (bv.out.below cb.out) s (by omega)).mono ?_
    rintro bc ea ⟨I,v5,rfl,hid,cv,b5⟩
    obtain⟨dx,eH,rfl,dy,eI,cx⟩:=cv.cap
    have dz:(I.map (λa:Nat=>(a:Int))).length=I.length:=by simp
    rw[dz]
    obtain⟨dE,cy,eb⟩:=Ame l I b6.out (by rw[s.out];exact c6) hid.1 hid.2
    have ec:X=DM h++Kg l I h.length 128 0 72 true/\cj=0:=by
     have:=a'.out
     rw[dE,cp.out]at this
     injection this with a1 a2
     exact⟨a1.symm,a2.symm⟩
    obtain⟨dF,rfl⟩:=ec
    rw[cp.out]at cy eb
    have eJ:=Lib.hid cx
    have ed:Hid (DM h++Kg l (I.drop 0) h.length 128 0 72 (!false)=X):=by unfold Hid;rw[dF];rfl
    have ee:Hid (Oj l (I.drop 0) h.length 128 0):=cy
    have eK:h.length+I.length=k:=by have:=s.out;omega
    have ef:Hid (Jg wr ea gs dx (I.map (λa:Nat=>(a:Int))) u6 (DM h) 128 0 h.length 72 false):=by
     refine⟨F5.grown q.out (G4 b5 none) (by simp),ct.out.below b5,dy,cb.out.trans (b5.mono cb.out.size),d4.out,Nat.lt_of_lt_of_le cu.out b5.size,ds.out,λb ff e=>?_⟩
     obtain⟨eL,eg⟩:=cx b ff e
     have eM:=cu.out
     refine⟨λC=>?_,by omega,eg⟩
     have:=(ct.out.lt b C).2
     omega
    have eN:=Lib.hid cv
    clear cv dy cx dE cy a' dF b5 q ct cb ds cu hid b2 b3 bd be b9 dz
    go_wp2
    go_loopw[6,38] (λvv u bl=>∃(j i b:Nat) (n:Int) (ao:List Int) (later:Bool),u=.int .i64 j/\j<=I.length/\0<=n/\n<=1114111/\i<=4096/\b<=70368744177664/\ao.length<=h.length+1+100000*j/\Hid (Jg wr bl gs dx (I.map (λa:Nat=>(a:Int))) vv ao n i (h.length+j) b later)/\Hid (ao++Kg l (I.drop j) (h.length+j) n i b (!later)=X)/\Hid (Oj l (I.drop j) (h.length+j) n i)) (λ_ u _=>I.length-(intOf u).toNat)
    case atStart=>exact⟨0,0,72,128,DM h,false,rfl,Nat.zero_le _,by omega,by omega,by omega,by omega,by unfold DM;split<;>simp,ef,ed,ee⟩
    case round=>
     obtain⟨j,i,b,n,ao,later,rfl,dq,dG,eh,dI,ei,eO,q,F,cA⟩:=hrel
     by_cases b0:j<I.length
     ·obtain⟨a,L⟩:∃a,I[j]=a:=⟨_,rfl⟩
      have cB:I.drop j=a::I.drop (j+1):=by rw[List.drop_eq_getElem_cons b0,L]
      have dH:=cA.out
      rw[cB]at dH
      obtain⟨dJ,dK,cC,dL,ej,cD⟩:=dH
      obtain⟨V,cc⟩:∃V:Nat,LK l (h.length+j) n i a=V:=⟨(LK l (h.length+j) n i a).toNat,by omega⟩
      rw[cc]at dL ej
      obtain⟨G,ad⟩:∃G,Kr l a=G:=⟨_,rfl⟩
      have eP:G<=a:=by rw[<-ad];exact Aq' l a
      obtain⟨x,am⟩:∃x,l.getD a 0=x:=⟨_,rfl⟩
      have ek:=LH (c7.out x (by rw[<-am];simp[dJ]))
      obtain⟨A,cd⟩:∃A,Fi V (h.length+j+1) (!later)=A:=⟨_,rfl⟩
      have eQ:A<=2199023255588:=by rw[<-cd];exact SD V _ _ (by omega)
      obtain⟨a9,ce⟩:∃a9,(Dn b 0 V).map CE=a9:=⟨_,rfl⟩
      have eR:a9.length<=11:=by
       rw[<-ce,List.length_map]
       have:=TX b 10 0 V (by omega)
       omega
      have dM:Hid ((ao++a9)++Kg l (I.drop (j+1)) (h.length+(j+1)) x (G+1) A (!true)=X):=by
       unfold Hid
       rw[<-F.out,cB,Kg,cc,Int.toNat_natCast,ce,cd,ad,am,List.append_assoc]
       rfl
      have dN:Hid (Oj l (I.drop (j+1)) (h.length+(j+1)) x (G+1)):=by
       unfold Hid;rw[ad,am]at cD;exact cD
      have cF:Hid ((x-n)*(((h.length+j:Nat):Int)+1)+(G:Int)-(i:Int)=(V:Int)):=by
       unfold Hid;rw[<-cc,LK,am,ad]
      have dO:a<k:=by have:=s.out;omega
      obtain⟨eS,eT,rfl,dP⟩:=(bv.out.below q.out.ab) a (by rw[s.out];exact dO)
      obtain⟨eU,eV,C,dQ⟩:=q.out.idx j (by simpa using b0)
      have dR:(I.map (λa:Nat=>(a:Int))).getD j 0=(a:Int):=by simp[List.getD,List.getElem?_eq_getElem b0,L]
      rw[dR]at dQ
      rw[am]at dP
      subst C
      rw[am]at dK
      rw[ad]at cC
      have el:=Lib.hid ad
      have dS:=Lib.hid cd
      have em:Hid (ao++(Dn b 0 V).map CE=ao++a9):=by unfold Hid;rw[ce]
      obtain⟨ac,dT⟩:∃ac,h.length+j=ac:=⟨_,rfl⟩
      have en:ac+1<=4096:=by omega
      have cf:h.length+(j+1)=ac+1:=by omega
      rw[dT]at q cF dS cC
      rw[cf]at dM dN
      obtain⟨dU,dV⟩:=ek
      clear L cB dJ dL cc ad am cd ce F cA cD dR dT
      go_wp2_with fail
      go_quiet (first
       | (go_at_call 177;exact Calls.quiet_of (Ark _ k cap a G l _ (Wy (bv.out.below q.out.ab) _) s (by omega) d1 dO el))
       | (go_at_call 176;exact Calls.quiet_of (At3 gs n i ac b later x G V _ (q.out.st.drewN _) (by omega) dG eh dU dV dI (by omega) cF)))
      have bs:=Lib.hid (q.out.drewN nq)
      clear q dP dQ
      generalize World.drewN _ nq=eW at bs|-
      have eo:=bs.out.st.2.2.2.1
      go_wp2_with fail
      refine(Akf _ _ ao (ao++a9) V b _ bs.out.ab.size bs.out.own (by omega) (by omega) ei em).mono ?_
      rintro bc w6 ⟨v6,rfl,dW,dX,dY⟩
      have cI:=Lib.hid (bs.out.aI dW dX dY)
      clear dW dX dY bs eo
      go_wp2_with fail
      obtain⟨cg,cO⟩:∃cg,(V+i)/(ac+1)=cg:=⟨_,rfl⟩
      obtain⟨ci,c2⟩:∃ci,(V+i)%(ac+1)=ci:=⟨_,rfl⟩
      have dZ:Hid (n+(cg:Int)=x/\ci=G):=by
       unfold Hid;rw[<-cO,<-c2];exact At2 cF.out dK cC
      refine(Afe gs n i ac b later V cg ci A _ cI.out.st en dG (by omega) dI (by omega) cO c2 dS).mono ?_
      rintro bc eX ⟨rfl,c3,d0⟩
      obtain⟨ba,C⟩:=dZ.out
      rw[ba,C]at c3
      have ep:=Lib.hid (cI.out.put c3 d0)
      clear c3 d0 cO c2 dZ ba C cI
      go_wp2
      go_roundw
      case rel=>exact⟨j+1,G+1,A,x,ao++a9,true,by go_num,by omega,dU,dV,by omega,by omega,by rw[List.length_append];omega,by rw[cf];exact ep,by rw[cf];exact dM,by rw[cf];exact dN⟩
      case measure=>simp[intOf];omega
     ·obtain rfl:j=I.length:=by omega
      have eq:Hid (ao=X):=by
       have:=F.out
       rw[List.drop_of_length_le (Nat.le_refl _),Kg,List.append_nil]at this
       exact this
      have er:=SZ q.out.own
      rw[eq.out,bt.out]at er
      have es:=Lib.hid q.out.ab
      clear q F cA
      go_wp2
      go_ret2
      exact⟨rfl,es.out⟩
end Go.Proofs.YtblcoicaeeiojaaGreatDoor
namespace Go.Proofs.YtblcoicaeeiojaaGreatDoor
open Go.RowKit
def fK(l:List Int)(k n:Nat):List Bool:=(List.range n).map λj=>decide (j<k)&&Cj (l.getD j 0)
def IQ(l:List Int)(k n:Nat):(fK l k n).length=n:=by simp[fK]
def Nh(l:List Int){k n j:Nat}(h:j<n):(fK l k n).getD j true=(decide (j<k)&&Cj (l.getD j 0)):=by
 unfold fK;rw[Cz,Gg,List.getElem?_range h];rfl
def Tx{F G:List Bool}(c:F.length=G.length)(h:∀j,j<F.length->F.getD j true=G.getD j true):F=G:=by
 apply Ve c;intro j b e;have:=h j b;rwa[Cz,CI b,Cz,CI e]at this
def AmL(l:List Int)(n:Nat):fK l 0 n=List.replicate n false:=by
 apply Tx (by rw[IQ];simp);intro j b;rw[IQ]at b;rw[Nh l b];simp[List.getD,Vg,b]
def AmK(l:List Int){k n:Nat}(c:k<n)(h:Cj (l.getD k 0)=true):fK l (k+1) n=(fK l k n).set k true:=by
 apply Tx (by rw[JV,IQ,IQ]);intro j b;rw[IQ]at b;by_cases e:k=j
 ·subst e;rw[OA _ _ _ (by rw[IQ];exact b),Nh l b,h];simp
 ·rw[No _ _ _ _ e,Nh l b,Nh l b];congr 1;exact Av3
def AmJ(l:List Int){k n:Nat}(c:k<n)(h:Cj (l.getD k 0)=false):fK l (k+1) n=fK l k n:=by
 apply Tx (by rw[IQ,IQ]);intro j b;rw[IQ]at b;rw[Nh l b,Nh l b];by_cases e:j=k
 ·subst e;rw[h];simp
 ·congr 1;exact Av3
def AmI(l:List Int):fK l l.length l.length=C8 l:=by
 apply Tx (by rw[IQ];unfold C8;simp);intro j b;rw[IQ]at b;rw[Nh l b,Qc l j b,At b];rfl
structure J7 (l:List Int) (F:List Bool) (n:Int) (i f:Nat):Prop where
 len:F.length=l.length
 ahead:PV l F n i
 n0:0<=n
 n1:n<=1114111
 i0:i<=(AW l F).length
 bJ:(AW l F).length+f=l.length
theorem J7.start(l:List Int):J7 l (C8 l) 128 0 (l.length-(Bm l).length) where
 len:=by unfold C8;simp
 ahead:=Abl l
 n0:=O
 n1:=O
 i0:=Au _
 bJ:=by have:=Ks l (C8 l);unfold Bm;omega
theorem J7.none{l:List Int}{F:List Bool}{n:Int}{i f:Nat}(h:J7 l F n i f)(b:Dy l F l.length=none):f=0:=by
 have:=XF l F h.len (QB l F _ b);have c:=h.bJ;rw[this]at c;omega
theorem J7.step{l:List Int}{F:List Bool}{n:Int}{i f a:Nat}(h:J7 l F n i f)(e:∀c∈l,BO c=true)(k:l.length<=256)(A:Dy l F l.length=some a):∃m,f=m+1/\a<l.length/\J7 l (F.set a true) (l.getD a 0) (Bv l F a+1) m/\FV l F n i a<=286326783/\(l.getD a 0-n)*(((AW l F).length:Int)+1)+(Bv l F a:Int)-(i:Int)=(FV l F n i a:Int):=by
 have b:=NC l F _ a A;obtain⟨C,G,L⟩:=AaQ h.len b h.ahead;have ac:=TT l F h.len b.lt;obtain⟨_,q⟩:=Afd h.len b.lt b.out;obtain⟨_,ad⟩:=Agr (P:=AW l F) (v:=FV l F n i a) C ac L h.i0 rfl;have am:=Ye e k h.len h.n0 (Af (Ks l F) k) b.lt (i:=i);have s:=LH (e (l.getD a 0) (by simp[b.lt]));have a9:=h.bJ;have a':=Ks l (F.set a true);refine⟨f-1,O,b.lt,⟨by simpa using h.len,G,s.1,s.2,by rw[q];omega,by rw[q];omega⟩,am,?_⟩;rw[ad];rfl
def Arc(l:List Int)(F:List Bool){k:Nat}(hF:F.length=l.length)(s:k<l.length):Bv l F (k+1)=Bv l F k+(if F.getD k true=true then 1 else 0):=by
 unfold Bv;have b:=OP (l.take (k+1)) (F.take (k+1)) k RF Ae;have c:(l.take (k+1)).take k=l.take k:=by rw[PQ,K_ O]
 have e:(F.take (k+1)).take k=F.take k:=by rw[PQ,K_ O]
 have h:(l.take (k+1)).drop (k+1)=[]:=J;have m:(F.take (k+1)).getD k true=F.getD k true:=by simp[List.getD]
 rw[b,c,e,h,m];simp only[Bc];have q:(AW [] ((F.take (k+1)).drop (k+1))).length=0:=by cases (F.take (k+1)).drop (k+1)<;>rfl
 rw[q];split<;>simp
def XA(l:List Int)(F:List Bool)(hF:F.length=l.length):Bv l F l.length=(AW l F).length:=by
 unfold Bv;rw[AO (Ac _),AO O]
def AtI(S:ByteArray)(h:S.size≠0):(S.toList==[])=false:=by
 rw[KR];cases b:S.data.toList with
 | nil=>exact absurd (by rw[<-RU,b];rfl:S.data.size=0) h
 | cons c r=>rfl
def AtK(S:ByteArray)(h:S.size=0):(S.toList==[])=true:=by
 rw[KR];have:S.data.toList=[]:=Bw (by rw[RU];exact h);rw[this];rfl
def XW(p:Option Addr)(n cap:Nat)(l X:List Int)(cB:Int)(ac:ByteArray)(w:World)(dm:Aq w p l)(bx:Hid (l.length=n))(el:n<=17592186043904)(b0:Hid (Dk l=(X,cB)))(b1:Hid (strOfNums X=ac)):Calls prog 76 #[.slice p n cap] w (P2 ac cB w):=by
 have cd:=U dm;clear dm;by_cases fc:256<n
 ·have ce:=b0.out;rw[AcB Zb]at ce;injection ce with bc ad;subst bc;subst ad;have c6:Hid (ac=ByteArray.mk #[]):=b1.out.symm;clear b0 b1;go_enter func76,ntmps76;go_wp2;exact Rs
 have jn:n<=256:=O;have dR:=Atc n O;have co:=U (FZ.made w n);have cC:=U ((Al w.heap.size w).alloc (Ac _) (TA n));clear fc;go_enter func76,ntmps76;go_upto_region 5 with(fail);obtain⟨s,cD⟩:∃s,w.heap.size=s:=⟨_,rfl⟩;have mo:=U cD;rw[cD]at co|-;clear dR cD;generalize w.alloc (TA n)=em at co cC|-;go_wp2;go_loopw[4,26] (λcF u wr=>∃(k:Nat) (S:ByteArray) (F:List Bool),u=.int .i64 k/\cF=.string S/\k<=n/\S.size<=k/\Hid (S=strOfNums (Bm (l.take k)))/\Hid ((l.take k).all BO=true)/\Hid (F=fK l k n)/\Hid (FZ wr s F)/\Hid (Below w.heap.size w wr)) (λ_ u _=>n-(intOf u).toNat)
 case atStart=>exact⟨0,ByteArray.mk #[],_,rfl,rfl,Au _,Ac _,rfl,rfl,(AmL l n).symm,co,cC⟩
 case round=>
  clear co cC;obtain⟨k,S,F,rfl,rfl,en,eo,b2,b4,hF,m,h⟩:=hrel;have dn:F.length=n:=by rw[hF.out];exact IQ l k n
  have L:=U dn;clear dn;by_cases cf:k<n
  ·have bd:k<l.length:=by rw[bx.out];exact cf
   obtain⟨b,ff,rfl,dS⟩:=(cd.out.below h.out) k bd;obtain⟨x,b3⟩:∃x,l.getD k 0=x:=⟨_,rfl⟩;rw[b3]at dS;cases hJ:BO x with
   | false =>
    have ce:=b0.out;rw[Acz Zh (AaX bd Zt)]at ce;injection ce with bc ad;subst bc;subst ad;have c6:Hid (ac=ByteArray.mk #[]):=b1.out.symm;have cp:=U hJ;clear b3 bd hJ b4 b0 b1;go_wp2_with (go_at_call 44;refine(QQ x false _ cp).mono ?_;rintro b5 w2 ⟨rfl,rfl⟩);go_ret2;exact⟨ZW,h.out⟩
   | true =>
    have cp:=U hJ;have fR:Hid ((l.take (k+1)).all BO=true):=AeK bd b4.out Zt;have cI:=LH hJ;obtain⟨be,ep⟩:=cI;have cg:=U (Abk l k bd);rw[b3]at cg;cases am:Cj x with
    | false =>
     have dq:¬x<128:=Fc am;have eq:decide (x<128)=false:=Ai dq;have C:Hid (S=strOfNums (Bm (l.take (k+1)))):=by unfold Hid;rw[cg.out,am];simpa using b2.out
     have bl:Hid (F=fK l (k+1) n):=by unfold Hid;rw[AmJ l cf (by rw[b3];exact am)];exact hF.out
     clear b3 bd hJ b4 b2 hF cg am;go_wp2_with (go_at_call 44;refine(QQ x true _ cp).mono ?_;rintro b5 w2 ⟨rfl,rfl⟩);go_roundw
     case rel=>exact⟨k+1,S,F,An,rfl,O,O,C,fR,bl,m,h⟩
     case measure=>simp[intOf];omega
    | true =>
     have dq:x<128:=If am;obtain⟨Y,c'⟩:∃Y,strOfNums [x]=Y:=⟨_,rfl⟩;have dT:Y.size=1:=RB;have dU:=Mc wr #[.int .u8 x] [x] 1 rfl rfl;rw[c']at dU;have C:Hid (S++Y=strOfNums (Bm (l.take (k+1)))):=by
      unfold Hid;rw[cg.out,am,N rfl,OT,c',b2.out]
     have bl:Hid (F.set k true=fK l (k+1) n):=by unfold Hid;rw[AmK l cf (by rw[b3];exact am),hF.out]
     have er:IntKind.u8.wrap x=x:=LR;have ci:(S++Y).size=S.size+1:=by rw[E6,dT]
     have cO:=U ci;have b6:=U (m.out.grown (GJ wr (.cells #[.int .u8 x] 5) none) J);have dV:=U (b6.out.set (i:=k) (by rw[L.out];exact cf) true);have dW:=b6.out.cell (k:=k) (by rw[L.out];exact cf);have dX:=b6.out.soft k;have c2:Hid (Below w.heap.size w ((wr.alloc (.cells #[.int .u8 x] 5)).setCell ⟨s,k,none⟩ (.bool true))):=
      (h.out.alloc h.out.size _).grown (GU _ s k _) (by have:=h.out.size;simp;omega) Aw'
     clear b3 bd hJ b4 b2 hF cg am c' ci b6 m h;go_wp2_with (go_at_call 44;refine(QQ x true _ cp).mono ?_;rintro b5 w2 ⟨rfl,rfl⟩);go_roundw
     case rel=>exact⟨k+1,S++Y,F.set k true,An,rfl,O,by rw[cO.out];omega,C,fR,bl,dV,c2⟩
     case measure=>simp[intOf];omega
  ·obtain rfl:k=n:=by omega
   have fR:Hid (l.all BO=true):=by have:=b4.out;rwa[AO H6]at this
   have ds:Hid (∀c∈l,BO c=true):=AR.1 fR.out;have bl:Hid (F=C8 l):=by
    have:=hF.out;rw[<-bx.out]at this;rw[AmI]at this;exact this
   have cq:Hid (S=strOfNums (Bm l)):=by have:=b2.out;rwa[AO H6]at this
   have dx:Hid (X=DM (Bm l)++Fy l (l.length-(Bm l).length) (C8 l) 128 0 72 true/\cB=0):=by
    have:=b0.out;unfold Dk at this;rw[V Zn,V Zi]at this;exact Aw5
   have c3:Hid (S.size=(Bm l).length):=by unfold Hid;rw[cq.out,Et]
   clear b4 hF b2 b0;go_upto_if 47 with(fail);go_cut[4] (λc b7=>∃b8:ByteArray,c=.string b8/\b8.size<=k+1/\Hid (b8=strOfNums (DM (Bm l)))/\b7=wr)
   case first=>
    by_cases cr:S.size=0
    ·have bs:=AtK S cr;have cj:S.toList.isEmpty=true:=by cases c4:S.toList with|nil=>rfl|cons c r=>(rw[c4]at bs;cases bs)
     rw[cj];clear bs cj;have G:Hid (S=strOfNums (DM (Bm l))):=by
      unfold Hid DM;rw[N (Bw (by rw[<-c3.out];exact cr)),E8];exact cq.out
     go_wp2;go_meet;exact⟨S,rfl,O,G,rfl⟩
    ·have bs:=AtI S cr;have cj:S.toList.isEmpty=false:=by cases c4:S.toList with|nil=>(rw[c4]at bs;cases bs)|cons c r=>rfl
     rw[cj];clear bs cj;have G:Hid (S++ByteArray.mk #[45]=strOfNums (DM (Bm l))):=by
      unfold Hid DM;rw[V (λe=>cr (by rw[c3.out,e];rfl)),OT,<-cq.out];rfl
     have C:Hid ((S++ByteArray.mk #[45]).size=S.size+1):=Ah2;have es:(ByteArray.mk #[45]).size=1:=rfl;go_wp2;go_meet;exact⟨_,rfl,by rw[C.out];omega,G,rfl⟩
   case rest=>
    obtain⟨b8,rfl,et,dy,rfl⟩:=hcut;obtain⟨dz,rfl⟩:=dx.out;have b9:Hid (b8++strOfNums (Fy l (l.length-(Bm l).length) F 128 0 72 true)=ac):=by
     unfold Hid;rw[<-b1.out,dz,OT,dy.out,bl.out]
    have c5:Hid (J7 l F 128 0 (l.length-(Bm l).length)):=by unfold Hid;rw[bl.out];exact J7.start l
    obtain⟨cs,dE⟩:∃cs,l.length-(Bm l).length=cs:=⟨_,rfl⟩;rw[dE]at b9 c5;have eu:cs<=k:=UL;clear dz dx b1 dy cq c3 bl dE;go_wp2;go_loopg[4,8,9,10,11] cs (λg cF dY dZ d0 d1 b7=>∃(F:List Bool) (n:Int) (i b:Nat) (first:Bool) (S:ByteArray),cF=.string S/\dY=.int .i64 n/\dZ=.int .i64 i/\d0=.int .i64 b/\d1=.bool first/\i<=257/\b<=70368744177664/\g<=256/\S.size<=300+11*(256-g)/\Hid (J7 l F n i g)/\Hid (S++strOfNums (Fy l g F n i b first)=ac)/\Hid (FZ b7 s F)/\Hid (Below w.heap.size w b7))
    case atStart=>exact⟨F,128,0,72,true,b8,rfl,rfl,rfl,rfl,rfl,O,O,O,O,c5,b9,m,h⟩
    case round=>
     clear c5 b9 m h L;obtain⟨F,n,i,b,first,S,rfl,rfl,rfl,rfl,rfl,dI,d2,ev,ew,a9,b3,m,h⟩:=hrel;have L:Hid (F.length=k):=by unfold Hid;rw[a9.out.len,bx.out]
     cases bt:Dy l F l.length with
     | none =>
      have d3:=a9.out.none bt;subst d3;have c7:Hid (Dy l F k=none):=by rw[<-bx.out];exact bt
      have d4:Hid (S=ac):=by
       have:=b3.out;rw[Fy]at this;rw[<-this];show S=S++ByteArray.mk #[];rw[show (ByteArray.mk #[]:ByteArray)=ByteArray.empty from rfl,ByteArray.append_empty]
      clear bt b3;go_wp2_with (go_at_call 120;refine(AfS p k cap s l F none _ (cd.out.below h.out) bx O L m.out c7).mono ?_;rintro b5 dF ⟨rfl,rfl⟩;simp only[OG]);go_ret2;exact⟨by rw[<-d4.out];rfl,h.out⟩
     | some a =>
      obtain⟨dG,d5,ct,c8,d6,cu⟩:=a9.out.step ds.out Zh bt;subst d5;have c7:Hid (Dy l F k=some a):=by rw[<-bx.out];exact bt
      have c9:a<k:=UL;have b':=U a9.out.len;obtain⟨V,da⟩:∃V,FV l F n i a=V:=⟨_,rfl⟩;obtain⟨H,ca⟩:∃H,(AW l F).length=H:=⟨_,rfl⟩;obtain⟨a',cb⟩:∃a',Bv l F a=a':=⟨_,rfl⟩;obtain⟨x,be⟩:∃x,l.getD a 0=x:=⟨_,rfl⟩;obtain⟨A,cv⟩:∃A,Fi V (H+1) first=A:=⟨_,rfl⟩;obtain⟨ba,cx⟩:∃ba,strOfNums ((Dn b 0 V).map CE)=ba:=⟨_,rfl⟩;have ex:A<=2199023255588:=by rw[<-cv];exact SD V _ _ O
      have ey:ba.size<=11:=by
       rw[<-cx,Et,C6];have:=TX b 10 0 V O;omega
      have b9:Hid ((S++ba)++strOfNums (Fy l dG (F.set a true) x (a'+1) A false)=ac):=by
       unfold Hid;rw[<-b3.out,Fy,bt];simp only;rw[da,ca,cb,be,cv,OT,cx,Aaa]
      have ez:H<=k:=by rw[<-ca,<-bx.out];exact Ks l F
      have eA:a'<=H:=by rw[<-ca,<-cb];exact TT l F a9.out.len ct
      rw[da]at d6 cu;rw[ca,cb,be]at cu;rw[be,cb]at c8;obtain⟨db,dH,rfl,dJ⟩:=(cd.out.below h.out) a ct;rw[be]at dJ;have eB:=a9.out.n0;have eC:=a9.out.n1;have cI:=LH (ds.out x (by rw[<-be];simp[ct]));obtain⟨eD,eE⟩:=cI;have dK:=U c8;have d7:=U cu;have d8:=U cb;have dc:=U ca;have dL:=U cv;have d9:=U cx;clear bt b3 a9 c8 cu da ca cb be cv cx ct;go_wp2_with (go_at_call 120;refine(AfS (some ⟨db,dH,none⟩) k cap s l F (some a) _ (cd.out.below h.out) bx O L m.out c7).mono ?_;rintro b5 dF ⟨rfl,rfl⟩;simp only[OG]);go_loopw[13,14,58] (λd_ d' u b7=>∃q:Nat,u=.int .i64 q/\d_=.int .i64 (Bv l F q)/\d'=.int .i64 (Bv l F (min q a))/\q<=k/\b7=dF) (λ_ _ u _=>k-(intOf u).toNat)
      case atStart=>exact⟨0,rfl,by rw[show Bv l F 0=0 from rfl];rfl,by rw[Nat.zero_min,show Bv l F 0=0 from rfl];rfl,Au _,Dr⟩
      case round=>
       obtain⟨q,rfl,rfl,rfl,ea,rfl⟩:=hrel;by_cases dM:q<k
       ·have dN:=m.out.cell (k:=q) (by rw[L.out];exact dM);have bb:=Arc l F b'.out (show q<l.length by rw[bx.out];exact dM);have eb:Bv l F q<=k:=by
         have df:=AeM l F b'.out (show q<=l.length by rw[bx.out];exact ea) (Ac _);rw[XA l F b'.out,dc.out]at df;omega
        have ec:Bv l F (min q a)<=k:=by
         have df:=AeM l F b'.out (show min q a<=l.length by rw[bx.out];omega) (Ac _);rw[XA l F b'.out,dc.out]at df;omega
        obtain⟨cy,cc⟩:∃cy,Bv l F q=cy:=⟨_,rfl⟩;obtain⟨cl,f6⟩:∃cl,Bv l F (min q a)=cl:=⟨_,rfl⟩;rw[cc]at bb eb|-;rw[f6]at ec|-;cases cm:F.getD q true with
        | true =>
         rw[cm]at dN bb;have G:Hid (Bv l F (q+1)=cy+1):=by unfold Hid;rw[bb];simp
         by_cases dO:q<a
         ·have C:Hid (Bv l F (min (q+1) a)=cl+1):=by
           unfold Hid;rw[K_ O,G.out];rw[K_ O,cc]at f6;omega
          clear bb cm cc f6;go_wp2;go_roundw
          case rel=>exact⟨q+1,An,by rw[G.out];go_num,by rw[C.out];go_num,O,Dr⟩
          case measure=>simp[intOf];omega
         ·have C:Hid (Bv l F (min (q+1) a)=cl):=by
           unfold Hid;exact Ay9
          have eF:decide (q<a)=false:=Ai dO;clear bb cm cc f6;go_wp2;go_roundw
          case rel=>exact⟨q+1,An,by rw[G.out];go_num,by rw[C.out],O,Dr⟩
          case measure=>simp[intOf];omega
        | false =>
         rw[cm]at dN bb;have G:Hid (Bv l F (q+1)=cy):=by unfold Hid;rw[bb];simp
         have C:Hid (Bv l F (min (q+1) a)=cl):=by
          unfold Hid;by_cases dO:q<a
          ·rw[K_ O,G.out];rw[K_ O,cc]at f6;exact f6
          ·exact Ay9
         clear bb cm cc f6;go_wp2;go_roundw
         case rel=>exact⟨q+1,An,by rw[G.out],by rw[C.out],O,Dr⟩
         case measure=>simp[intOf];omega
       ·obtain rfl:k=q:=by omega
        have bc:Bv l F k=H:=by rw[<-dc.out,<-XA l F b'.out,bx.out]
        have ad:Bv l F (min k a)=a':=by rw[Aaw O];exact d8.out
        rw[bc,ad];clear bc ad;have ed:(x-n)*((H:Int)+1)+(a':Int)-(i:Int)=(V:Int):=d7.out;have dP : -4564517778<=(x-n)*((H:Int)+1)/\(x-n)*((H:Int)+1)<=4564517778:=by
         have e:(x-n).natAbs*(H+1)<=1114111*4097:=Oe O O;have ad:((x-n)*((H:Int)+1)).natAbs=(x-n).natAbs*(H+1):=by
          rw[Int.natAbs_mul];congr 1
         omega
        obtain⟨M,dj⟩:∃M,(x-n)*((H:Int)+1)=M:=⟨_,rfl⟩;rw[dj]at ed dP;obtain⟨eG,eH⟩:=dP;obtain⟨bv,dQ⟩:∃bv,H+1=bv:=⟨_,rfl⟩;have ee:(H:Int)+1=(bv:Int):=O;have eI:(x-n)*(bv:Int)=M:=by rw[<-dj,ee]
        obtain⟨cA,dk⟩:∃cA,a'+1=cA:=⟨_,rfl⟩;have eJ:(a':Int)+1=(cA:Int):=O;have eK:=U dk;rw[dQ]at dL;have ef:1<=bv/\bv<=4096:=O;obtain⟨eg,eh⟩:=ef;rw[dk]at b9 dK;have ci:(S++ba).size=S.size+ba.size:=E6;have cO:=U ci;have dW:=m.out.cell (k:=a) (by rw[L.out];exact c9);have dX:=m.out.soft a;have b6:=U (m.out.set (i:=a) (by rw[L.out];exact c9) true);have c2:Hid (Below w.heap.size w (World.setCell _ ⟨s,a,none⟩ (.bool true))):=h.out.grown (GU _ s a (.bool true)) h.out.size Aw';have ei:db<s:=by
         obtain⟨eL,eM,ej,ek⟩:=cd.out a (by rw[bx.out];exact c9);cases ej;have:=AN w _ ek;have:=mo.out;simp only at *;omega
        have eN:=(AY _ ⟨s,a,none⟩ ⟨db,dH+a,none⟩ (.bool true) (by intro e;injection e with bc ad;omega)).trans dJ;clear dQ dk ci dj m h ei;go_wp2_with (first
         | (go_at_call 121;refine(Asz V b ba _ O d2 d9).mono ?_;rintro b5 w6 ⟨rfl,rfl⟩)
         | (go_at_call 122;refine(Afr V bv A first _ O eg eh dL).mono ?_;rintro b5 eO ⟨rfl,rfl⟩))
        go_roundg dG
        case measure=>omega
        case rel=>exact⟨F.set a true,x,cA,A,false,S++ba,rfl,rfl,rfl,rfl,rfl,O,O,O,by rw[cO.out];omega,dK,b9,b6,c2⟩
end Go.Proofs.YtblcoicaeeiojaaGreatDoor
