/- The contracts of keep.Fr -/
import Derived.Test.YtblcoicaeeiojaaGreatDoorSOaPmPunA
import Derived.Test.YtblcoicaeeiojaaGreatDoorSOaPmSplD
set_option linter.all false
set_option maxHeartbeats 2000000
set_option maxRecDepth 100000
open Go.Proofs.Tryz
namespace Go.Proofs.YtblcoicaeeiojaaGreatDoor
open Go.RowKit
def Bd(w:World)(g:Nat)(r:List Int):Prop:=
 ∃(ao:List Int) (i:Nat) (p:Option Addr) (cap:Nat),ao.drop i=r/\i<=ao.length/\ao.length<=17592186043904/\w.cell? ⟨g,0,none⟩=some (.slice p ao.length cap)/\w.cell? ⟨g,1,none⟩=some (.int .i64 i)/\
  w.frozen? ⟨g,1,none⟩=false/\Aq w p ao/\(ao≠[]->∀b ff,p=some ⟨b,ff,none⟩->b<g)
def AZ(r:List Int)(n:Int):Int:=match r with | []=>0|x::_=>Dc x n
def DO(r:List Int)(n:Int)(h:1<=n):0<=AZ r n/\AZ r n<n:=by
 unfold AZ;split
 ·omega
 ·exact XE _ n h
theorem BE.grown{t:IntKind}{w w':World}{p:Option Addr}{ao:List Int}{g:Nat}(h:BE t w p ao)(c:w.grownBy w' (some g))(m:∀b ff,p=some ⟨b,ff,none⟩->b≠g):BE t w' p ao:=by
 intro k q;obtain⟨b,ff,e,s⟩:=h k q;exact⟨b,ff,e,c.cell s (by simpa using m b ff e)⟩
theorem Bd.below{w w':World}{g:Nat}{r:List Int}(h:Bd w g r)(b:Below w.heap.size w w'):Bd w' g r:=by
 obtain⟨ao,i,p,cap,m,q,s,c,e,A,C,F⟩:=h;have G:=AN w _ c;have k:=AN w _ e;exact⟨ao,i,p,cap,m,q,s,(b.cell (p:=⟨g,0,none⟩) G).trans c,(b.cell (p:=⟨g,1,none⟩) k).trans e,(b.frozen (p:=⟨g,1,none⟩) k).trans A,C.below b,F⟩
theorem Bd.alloc{w:World}{g:Nat}{r:List Int}(h:Bd w g r)(o:Obj):Bd (w.alloc o) g r:=h.below ((Al _ _).alloc (Ac _) o)
def A5{w w1 w2:World}{row:Option Nat}(h:w.grownBy w1 row)(k:w1.grownBy w2 row):w.grownBy w2 row:=
 ⟨k.os.trans h.os,k.tape.trans h.tape,k.output.trans h.output,Af h.size k.size,λi dI b=>(k.block i (Ci dI h.size) b).trans (h.block i dI b)⟩
def Anr{w w1 w2:World}{row:Option Nat}(h:w.grownBy w1 row)(k:Below w1.heap.size w1 w2):w.grownBy w2 row:=A5 h (G4 k row)
def Em{w w1:World}{row:Option Nat}(h:w.grownBy w1 row)(n:Nat):w.grownBy (w1.drewN n) row:=⟨h.os,h.tape,h.output,h.size,h.block⟩
def GU(w:World)(g o:Nat)(v:Value):w.grownBy (w.setCell ⟨g,o,none⟩ v) (some g):=
 ⟨rfl,rfl,rfl,J,λk _ b=>heap_setCell_other w ⟨g,o,none⟩ k v (λe=>b (by simp[e]))⟩
theorem Bd.grown{w w':World}{g:Nat}{r:List Int}{row:Option Nat}(h:Bd w g r)(c:w.grownBy w' row)(C:∀k,row=some k->g<k):Bd w' g r:=by
 obtain⟨ao,i,p,cap,F,G,L,s,ac,ad,am,A⟩:=h;have m:∀b,b<=g->some b≠row:=λb a9 e=>by have:=C b e.symm;omega
 have a':=AN w _ s;refine⟨ao,i,p,cap,F,G,L,c.cell s (m g (Ac _)),c.cell ac (m g (Ac _)),?_,?_,A⟩
 ·exact(EN (c.block g a' (m g (Ac _)))).trans ad
 ·intro k q;obtain⟨b,ff,e,ba⟩:=am k q;have a9:=A (by intro e;rw[e]at q;simp at q) b ff e;exact⟨b,ff,e,c.cell ba (m b O)⟩
def Vx(g:Nat)(v:Int)(r:List Int)(w:World)(e:Ending)(w':World):Prop:=
 e=.returned (.int .i64 v)/\Bd w' g r/\w.grownBy w' (some g)
def Arh(v n:Int)(w:World)(c:1<=n)(h:n<=1073741824):Calls prog 18 #[.int .i64 v,.int .i64 n] w λe w'=>e=.returned (.int .i64 (Dc v n))/\w'=w:=
 (Are v n w c h).mono λ_ _ ⟨a,b⟩=>⟨a,b.symm⟩
def Aeh(g:Nat)(r:List Int)(n:Int)(w:World)(bs:Bd w g r)(b4:1<=n)(b5:n<=1073741824):Calls prog 30 #[.pointer (some ⟨g,0,none⟩),.int .i64 n] w (Vx g (AZ r n) r.tail w):=by
 obtain⟨ao,i,p,cap,a9,dI,a',q,s,A,ba,bb⟩:=bs;have bc:=U a9;have C:=U ba;have F:=U bb;clear a9 ba bb;by_cases h:i<ao.length
 ·have G:=U (F.out (by intro e;rw[e]at h;simp at h));clear F;obtain⟨b,ff,rfl,L⟩:=C.out i h;have bd:b<g:=G.out b ff rfl;obtain⟨x,ac⟩:∃x,ao.getD i 0=x:=⟨_,rfl⟩;rw[ac]at L;have be:ao.drop i=x::ao.drop (i+1):=by
   rw[EP h,<-ac];simp[h]
  have ad:Hid (r=x::ao.drop (i+1)):=by unfold Hid;rw[<-bc.out,be]
  have bt:=U bd;have bv:decide (ao.length<=i)=false:=Ae;clear ac be bd;go_enter func30,ntmps30;go_wp2;go_quiet (fail);go_upto_region 4 with(fail);generalize k:World.setCell (World.drewN w _) ⟨g,1,none⟩ (.int .i64 (i+1))=c;have m:w.grownBy c (some g):=by rw[<-k];exact A5 (Em (World.grownBy.mk rfl rfl rfl (Ac _) λ_ _ _=>rfl) _) (GU _ g 1 _)
  have bx:c.cell? ⟨g,0,none⟩=some (.slice (some ⟨b,ff,none⟩) ao.length cap):=by rw[<-k];exact(AY _ _ _ _ J).trans q
  have b0:c.cell? ⟨g,1,none⟩=some (.int .i64 (i+1)):=by rw[<-k];exact E7 _ _ _ s
  have b1:c.frozen? ⟨g,1,none⟩=false:=by rw[<-k];exact(DC _ _ _ _).trans A
  have b6:c.cell? ⟨b,ff+i,none⟩=some (.int .i64 x):=m.cell L (by have:=bt.out;simp;omega);have b7:IntKind.i64.wrap ((i:Int)+1-1)=i:=H_;have am:=C.out.grown m (λb ff e=>Nat.ne_of_lt (G.out b ff e));have b2:=U m;have b8:=U am;have bl:Bd c g (ao.drop (i+1)):=⟨ao,i+1,_,cap,rfl,O,a',bx,b0,b1,am,λ_=>G.out⟩;have b3:=U bl;clear k m am q s A L bl;go_quiet ((go_at_call 18;exact Calls.quiet_of_same (Arh _ _ _ O O)));go_wp2;go_ret;rw[ad.out];exact⟨rfl,b3.out.below (EO (Al _ _) _),Em b2.out _⟩
 ·have bv:decide (ao.length<=i)=true:=by simp;omega
  have ad:Hid (r=[]):=by unfold Hid;rw[<-bc.out];exact G0 O
  go_enter func30,ntmps30;go_wp2;go_quiet (fail);go_wp2;go_ret;rw[ad.out];refine⟨rfl,⟨ao,i,p,cap,?_,dI,a',q,s,A,C.out,F.out⟩,Em (World.grownBy.mk rfl rfl rfl (Ac _) λ_ _ _=>rfl) _⟩;exact G0 O
end Go.Proofs.YtblcoicaeeiojaaGreatDoor
namespace Go.Proofs.YtblcoicaeeiojaaGreatDoor
open Go.RowKit Go.Sort
def AI(w:World)(g cap:Nat)(d:Array Int):Prop:=
 ∃b:Array Value,w.heap[g]? = some (.cells b 3 (0,0))/\b.size=cap/\d.size<=cap/\∀i,i<d.size->b[i]? = some (.int .i64 d[i]!)
theorem AI.cell{w:World}{g cap:Nat}{d:Array Int}(h:AI w g cap d){i:Nat}(dI:i<d.size):w.cell? ⟨g,i,none⟩=some (.int .i64 d[i]!):=by
 obtain⟨e,b,k,m,c⟩:=h;simp[World.cell?,b,c i dI]
theorem AI.soft{w:World}{g cap:Nat}{d:Array Int}(h:AI w g cap d)(i:Nat):w.frozen? ⟨g,i,none⟩=false:=by
 obtain⟨c,b,_⟩:=h;simp[World.frozen?,b]
theorem AI.lt{w:World}{g cap:Nat}{d:Array Int}(h:AI w g cap d):g<w.heap.size:=by
 obtain⟨c,b,_⟩:=h;exact(EM.1 b).1
theorem AI.room{w:World}{g cap:Nat}{d:Array Int}(h:AI w g cap d):d.size<=cap:=by obtain⟨c,_,_,b,_⟩:=h;exact b
theorem AI.drew{w:World}{g cap:Nat}{d:Array Int}(h:AI w g cap d):AI w.drew g cap d:=h
theorem AI.drewN{w:World}{g cap:Nat}{d:Array Int}(h:AI w g cap d)(n:Nat):AI (w.drewN n) g cap d:=h
theorem AI.set{w:World}{g cap:Nat}{d:Array Int}(h:AI w g cap d){i:Nat}(dI:i<d.size)(x:Int):AI (w.setCell ⟨g,i,none⟩ (.int .i64 x)) g cap (d.setIfInBounds i x):=by
 obtain⟨b,m,be,cD,q⟩:=h;refine⟨b.setIfInBounds i (.int .i64 x),?_,N1,MH,λk s=>?_⟩
 ·rw[R4 w g i b _ _ _ m];exact PG w g b _ _ _ m
 ·have c:k<d.size:=by simpa using s
  rw[Z_];by_cases e:i=k
  ·subst e;rw[N rfl,N O];rw[JZ _ i Iz];exact J
  ·rw[V e,q k c];congr 2;have A:(d.setIfInBounds i x)[k]! = d[k]! := by
    rw[JZ _ k (by simpa using c),JZ d k c,Array.getElem_setIfInBounds,V e]
   rw[A]
theorem AI.swp{w: World}{g cap: Nat}{d: Array Int}(h: AI w g cap d){i j: Nat}(dI: i < d.size)(ed: j < d.size) :
  AI ((w.setCell ⟨g,i,none⟩ (.int .i64 d[j]!)).setCell ⟨g,j,none⟩ (.int .i64 d[i]!)) g cap (swp d i j):=(h.set dI _).set Zv _
theorem AI.grown{w w':World}{g cap:Nat}{d:Array Int}{row:Option Nat}(h:AI w g cap d)(c:w.grownBy w' row)(k:row≠some g):AI w' g cap d:=by
 obtain⟨m,b,q⟩:=h;refine⟨m,?_,q⟩;rw[c.block g (EM.1 b).1 (λe=>k e.symm)];exact b
def Tn(w:World)(g i j:Nat)(u v:Value):w.grownBy ((w.setCell ⟨g,i,none⟩ u).setCell ⟨g,j,none⟩ v) (some g):=A5 (GU w g i u) (GU _ g j v)
def OB{w w':World}{row:Option Nat}(h:w.grownBy w' row):w.grownBy w'.drew row:=⟨h.os,h.tape,h.output,h.size,h.block⟩
def Ln(w:World)(row:Option Nat):w.grownBy w row:=⟨rfl,rfl,rfl,Ac _,λ_ _ _=>rfl⟩
theorem AI.bj{w:World}{B:Nat}{v:Value}{xs:List Int}(h:Ak w B v xs)(c:xs≠[]):∃g cap,v=.slice (some ⟨g,0,none⟩) xs.length cap/\B<=g/\cap<=maxLen/\AI w g cap xs.toArray:=by
 obtain⟨F,k⟩:=h;rcases k with⟨rfl,m⟩|⟨g,cap,b,rfl,q,s,bx,A,b2,ep⟩
 ·exact absurd (Bw m) c
 ·refine⟨g,cap,rfl,q,A,b,s,RD,UO,λi dI=>?_⟩;have C:i<xs.length:=Iz;have e:(b.toList.take (xs.length*1))[i]? = (xs.map (Value.int .i64))[i]? := N4;rw[Eu,N O,Px]at e;rw[e,Gg,CI C,JZ _ i dI];exact J
theorem AI.cn{w:World}{B g cap:Nat}{d:Array Int}(h:AI w g cap d)(b:B<=g)(c:cap<=maxLen):Ak w B (.slice (some ⟨g,0,none⟩) d.size cap) d.toList:=by
 obtain⟨e,k,be,cD,m⟩:=h;refine⟨J,.inr ⟨g,cap,e,J,b,k,MH,c,N1,?_⟩⟩;apply R_;intro i;rw[Eu];by_cases dI:i<d.size
 ·rw[N Iz,Px,m i dI,Gg,CI Iz,JZ d i dI];exact J
 ·rw[V Iz,MT Iz]
def II(g cap:Nat)(d:Array Int)(R:Array Int->Prop)(w:World)(e:Ending)(w':World):Prop:=
 e=.returned (.tuple #[])/\∃hQ:Array Int,AI w' g cap hQ/\hQ.size=d.size/\R hQ/\w.grownBy w' (some g)
def Avg(a b:Nat)(d:Nat->Int)(k:Nat):I2 a b 0 d k=d k:=by unfold I2;rw[V O,V O]
def Avf{a b i:Nat}{d c:Array Int}(h:∀k,c[k]! = I2 a b i (λk=>d[k]!) k)(L:a+i<b)(F:b+i<c.size)(k:Nat):(swp c (a+i) (b+i))[k]! = I2 a b (i+1) (λk=>d[k]!) k:=by
 rw[swp_get c O F];have q:=h (a+i);have s:=h (b+i);have G:=h k;unfold I2 at *;rw[V O,V O]at q s;by_cases e:k=b+i
 ·rw[N e,q,V O,N O];simp only[e];congr 1;omega
 ·rw[V e];by_cases m:k=a+i
  ·rw[N m,s,N O];simp only[m];congr 1;omega
  ·rw[V m,G];by_cases A:a<=k/\k<a+i
   ·rw[N A,N (show a<=k/\k<a+(i+1) by omega)]
   ·rw[V A,V (show ¬(a<=k/\k<a+(i+1)) by omega)];by_cases C:b<=k/\k<b+i
    ·rw[N C,N (show b<=k/\k<b+(i+1) by omega)]
    ·rw[V C,V (show ¬(b<=k/\k<b+(i+1)) by omega)]
def Yj(g cap a b n:Nat)(d:Array Int)(F:Value)(w:World)(G:AI w g cap d)(am:d.size<=1099511627776)(bv:a+n<=b)(a9:b+n<=d.size):Calls prog 304 #[.slice (some ⟨g,0,none⟩) d.size cap,.int .i64 a,.int .i64 b,.int .i64 n,F] w (II g cap d (λhQ=>(∀k,hQ[k]! = I2 a b n (λk=>d[k]!) k)/\PermIn a (b+n) d hQ) w):=by
 have a':=U G;obtain⟨N,h⟩:∃N,d.size=N:=⟨_,rfl⟩;rw[h]at am a9|-;have bb:=U h;clear G h;go_enter func304,ntmps304;go_wp2;go_loopw[10] (λu wr=>∃(i:Nat) (c:Array Int),u=.int .i64 i/\i<=n/\Hid (c.size=d.size)/\Hid (AI wr g cap c)/\Hid (∀k,c[k]! = I2 a b i (λk=>d[k]!) k)/\Hid (PermIn a (b+n) d c)/\Hid (w.grownBy wr (some g))) (λu _=>n-(intOf u).toNat)
 case atStart=>exact⟨0,d,rfl,Au _,rfl,a',λk=>(Avg _ _ _ _).symm,I_ d a (b+n),World.grownBy.mk rfl rfl rfl (Ac _) λ_ _ _=>rfl⟩
 case round=>
  obtain⟨i,c,rfl,dI,eJ,e,m,s,L⟩:=hrel;by_cases bx:i<n
  ·obtain⟨p,ac⟩:∃p,a+i=p:=⟨_,rfl⟩;obtain⟨q,ad⟩:∃q,b+i=q:=⟨_,rfl⟩;have b0:(a:Int)+(i:Int)=(p:Int):=O;have b1:(b:Int)+(i:Int)=(q:Int):=O;have b2:p<N:=O;have b3:q<N:=O;have b4:p<q:=O;obtain⟨X,A⟩:∃X,c[p]! = X:=⟨_,rfl⟩;obtain⟨Y,C⟩:∃Y,c[q]! = Y:=⟨_,rfl⟩;have ba:=e.out.cell (i:=p) MD;have bc:=e.out.cell (i:=q) MD;rw[A]at ba;rw[C]at bc;have b5:=e.out.soft p;have b6:=e.out.soft q;have bd:Hid (AI ((wr.setCell ⟨g,p,none⟩ (.int .i64 Y)).setCell ⟨g,q,none⟩ (.int .i64 X)) g cap (swp c p q)):=by
    unfold Hid;rw[<-A,<-C];exact e.out.swp MD MD
   have be:Hid (∀k,(swp c p q)[k]! = I2 a b (i+1) (λk=>d[k]!) k):=by
    unfold Hid;rw[<-ac,<-ad];exact Avf m.out O MD
   have bl:Hid (PermIn a (b+n) d (swp c p q)):=I' _ _ _ _ _ s.out (swp_permIn c a (b+n) p q O O O O MD);have bs:Hid ((swp c p q).size=d.size):=by unfold Hid;rw[swp_size];exact eJ.out
   have bt:Hid (w.grownBy ((wr.setCell ⟨g,p,none⟩ (.int .i64 Y)).setCell ⟨g,q,none⟩ (.int .i64 X)) (some g)):=A5 L.out (Tn _ _ _ _ _ _);clear A C ac ad e eJ m s;go_wp2;go_region;go_wp2;go_roundw
   case rel=>exact⟨i+1,swp c p q,An,O,bs,bd.out,be,bl,OB bt.out⟩
   case measure=>simp[intOf];omega
  ·obtain rfl:i=n:=by omega
   go_wp2;go_end0;exact⟨rfl,c,e.out,eJ.out,⟨m.out,s.out⟩,L.out⟩
end Go.Proofs.YtblcoicaeeiojaaGreatDoor
namespace Go.Proofs.YtblcoicaeeiojaaGreatDoor
open Go.RowKit
def Ar1:∀v,v<36->(ByteArray.mk #[97,98,99,100,101,102,103,104,105,106,107,108,109,110,111,112,113,114,115,116,117,118,119,120,121,122,48,49,50,51,52,53,54,55,56,57]).extract v (v+1)=strOfNums [CE v]:=by decide +kernel
def OT(a b:List Int):strOfNums (a++b)=strOfNums a++strOfNums b:=by
 apply Pz;simp[strOfNums]
def Afv(v:Nat)(S:ByteArray)(w:World)(h:v<36)(k:Hid (strOfNums [CE v]=S)):Calls prog 183 #[.int .i64 v] w λe w'=>e=.returned (.string S)/\w'=w:=by
 obtain⟨b,c⟩:∃b,v+1=b:=⟨_,rfl⟩;have q:(v:Int)+1=(b:Int):=O;have m:Hid ((ByteArray.mk #[97,98,99,100,101,102,103,104,105,106,107,108,109,110,111,112,113,114,115,116,117,118,119,120,121,122,48,49,50,51,52,53,54,55,56,57]).extract v b=S):=by unfold Hid;rw[<-c,Ar1 v h];exact k.out
 have s:b<=36:=O;have A:v<=b:=O;clear c;go_enter func183,ntmps183;go_wp2;go_ret;exact⟨by rw[<-m.out];rfl,rfl⟩
def Asz(N b:Nat)(R:ByteArray)(w:World)(ba:N<=2147483647)(b0:b<=70368744177664)(bb:Hid (strOfNums ((Dn b 0 N).map CE)=R)):Calls prog 121 #[.int .i64 N,.int .i64 b] w λe w'=>e=.returned (.string R)/\w'=w:=by
 go_enter func121,ntmps121
 go_wp2
 go_loopw[0,5,6] (λu bc t wr=>∃(M j:Nat) (S:ByteArray),u=.int .i64 M/\t=.int .i64 j/\bc=.string S/\M<=2147483647/\j<=2147483648-M/\S.size<=j/\Hid (S++strOfNums ((Dn b j M).map CE)=R)/\wr=w) (λu _ _ _=>(intOf u).toNat)
 case atStart=>exact⟨N,0,ByteArray.mk #[],rfl,rfl,rfl,ba,by omega,Nat.le_refl _,by unfold Hid;rw[show (ByteArray.mk #[]:ByteArray)=ByteArray.empty from rfl,ByteArray.empty_append];exact bb.out,rfl⟩
 case round=>
  obtain⟨M,j,S,rfl,rfl,rfl,b1,b2,b3,F,rfl⟩:=hrel
  obtain⟨T,k⟩:∃T,BV b j=T:=⟨_,rfl⟩
  obtain⟨bd,be⟩:=Ix b j
  rw[k]at bd be
  have G:=Lib.hid k
  have m:Hid (Dn b j M=if M<T then [M] else(T+(M-T)%(36-T))::Dn b (j+1) ((M-T)/(36-T))):=by
   unfold Hid;rw[Dn,k];split<;>rfl
  clear k
  by_cases L:M<T
  ·obtain⟨Y,h⟩:∃Y,strOfNums [CE M]=Y:=⟨_,rfl⟩
   have s:Hid (S++Y=R):=by
    unfold Hid;rw[<-F.out,m.out,if_pos L,<-h];rfl
   have ac:Y.size=1:=by rw[<-h,strOfNums_size];rfl
   have A:=Lib.hid h
   have bl:M<36:=by omega
   clear h
   go_wp2_with (first
    | (go_at_call 182;refine(Q_ j b T _ (by omega) (by omega) G).mono ?_;rintro e w1 ⟨rfl,rfl⟩)
    | (go_at_call 183;refine(Afv M Y _ bl A).mono ?_;rintro e w2 ⟨rfl,rfl⟩))
   go_ret
   exact⟨by rw[<-s.out];rfl,rfl⟩
  ·obtain⟨f,ad⟩:∃f,36-T=f:=⟨_,rfl⟩
   obtain⟨c,am⟩:∃c,M-T=c:=⟨_,rfl⟩
   obtain⟨Q,q⟩:∃Q,c/f=Q:=⟨_,rfl⟩
   obtain⟨D,C⟩:∃D,T+c%f=D:=⟨_,rfl⟩
   rw[ad,am,q,C,if_neg L]at m
   obtain⟨Y,h⟩:∃Y,strOfNums [CE D]=Y:=⟨_,rfl⟩
   have s:Hid ((S++Y)++strOfNums ((Dn b (j+1) Q).map CE)=R):=by
    unfold Hid;rw[<-F.out,m.out,List.map_cons,<-List.singleton_append,OT,h,ByteArray.append_assoc]
   have ac:Y.size=1:=by rw[<-h,strOfNums_size];rfl
   have A:=Lib.hid h
   have a9:(S++Y).size=S.size+1:=by rw[ByteArray.size_append,ac]
   have bs:=Lib.hid a9
   have b4:10<=f:=by omega
   have bt:c%f<f:=Nat.mod_lt _ (by omega)
   have bv:D<36:=by omega
   have b5:Q<=c:=by rw[<-q];exact Nat.div_le_self _ _
   have b6:(M:Int)-(T:Int)=(c:Int):=by omega
   have b7:(36:Int)-(T:Int)=(f:Int):=by omega
   have bx:(c:Int).tmod (f:Int)=((c%f:Nat):Int):=rfl
   have b8:(c:Int).tdiv (f:Int)=(Q:Int):=by rw[<-q];rfl
   obtain⟨r,a'⟩:∃r,c%f=r:=⟨_,rfl⟩
   rw[a']at bx bt C
   have b9:(T:Int)+(r:Int)=(D:Int):=by omega
   have b':¬((M:Int)<(T:Int)):=by omega
   have ca:c+1<=M:=by omega
   clear ad am q C a' m h a9
   go_wp2_with (first
    | (go_at_call 182;refine(Q_ j b T _ (by omega) (by omega) G).mono ?_;rintro e w1 ⟨rfl,rfl⟩)
    | (go_at_call 183;refine(Afv D Y _ bv A).mono ?_;rintro e w2 ⟨rfl,rfl⟩))
   go_roundw
   case rel=>exact⟨Q,j+1,S++Y,rfl,by go_num,rfl,by omega,by omega,by rw[bs.out];omega,s,by first|rfl|trivial⟩
   case measure=>simp[intOf];omega
def FZ(w:World)(g:Nat)(F:List Bool):Prop:=
 ∃b:Array Value,w.heap[g]? = some (.cells b 4 (0,0))/\b.size=F.length/\∀k,k<F.length->b[k]? = some (.bool (F.getD k true))
theorem FZ.cell{w:World}{g:Nat}{F:List Bool}(h:FZ w g F){k:Nat}(b:k<F.length):w.cell? ⟨g,k,none⟩=some (.bool (F.getD k true)):=by
 obtain⟨m,c,q,e⟩:=h;simp only[World.cell?,c,e k b];rfl
theorem FZ.soft{w:World}{g:Nat}{F:List Bool}(h:FZ w g F)(k:Nat):w.frozen? ⟨g,k,none⟩=false:=by
 obtain⟨c,b,_⟩:=h;simp[World.frozen?,b]
theorem FZ.lt{w:World}{g:Nat}{F:List Bool}(h:FZ w g F):g<w.heap.size:=by
 obtain⟨c,b,_⟩:=h;exact(EM.1 b).1
theorem FZ.grown{w w':World}{g:Nat}{F:List Bool}{row:Option Nat}(h:FZ w g F)(c:w.grownBy w' row)(k:row≠some g):FZ w' g F:=by
 obtain⟨m,b,q⟩:=h;refine⟨m,?_,q⟩;rw[c.block g (EM.1 b).1 (λe=>k e.symm)];exact b
theorem FZ.set{w:World}{g:Nat}{F:List Bool}(h:FZ w g F){i:Nat}(dI:i<F.length)(x:Bool):FZ (w.setCell ⟨g,i,none⟩ (.bool x)) g (F.set i x):=by
 obtain⟨b,c,be,m⟩:=h;refine⟨b.setIfInBounds i (.bool x),?_,N1,λk q=>?_⟩
 ·rw[R4 w g i b _ _ _ c];exact PG w g b _ _ _ c
 ·have s:k<F.length:=by simpa using q
  rw[Z_];by_cases e:i=k
  ·subst e;rw[N rfl,N O,OA F i x dI]
  ·rw[V e,m k s,No F i k x e]
def TA(c:Nat):Obj:=.cells (madeCells (Value.cells (.bool false)) (c*1)) 4
def info4:(prog.info? 4).map (λi=>(i.zero,i.size,i.bytes))=some (some (.bool false),1,1):=Ax
def Atc(c:Nat)(q:c<=4194304)(w:World):(Instr.makeSlice 126 (.int .i64 (c:Int)) (.int .i64 (c:Int))).run prog w=.ok (.slice (some ⟨w.heap.size,0,none⟩) c c) (w.alloc (TA c)):=by
 obtain⟨b,dI,h,k,dE⟩:=Cp info4;have m:(b.bytes:Int)*(c:Int)<=281474976710656:=I3;have e:=run_make (P:=prog) w 126 4 b _ underlying126 dI h .i64 .i64 c c O O m O;simp only[Ef,k]at e;exact e
theorem FZ.made(w:World)(c:Nat):FZ (w.alloc (TA c)) w.heap.size (List.replicate c false):=by
 refine⟨_,IC w _,by rw[R5];simp[Value.cells],λk ba=>?_⟩;have b:k<c:=KL;simp[madeCells,Value.cells,List.getD,b,Vg,Nat.mod_one]
def OG(o:Option Nat):Int:=match o with|none=>-1|some a=>a
theorem AoT(l: List Int)(F: List Bool)(k: Nat): Dy l F (k + 1) = match Dy l F k with
  | none=>if F.getD k true=false then some k else none
  | some a=>if F.getD k true=false/\l.getD k 0<l.getD a 0 then some k else some a:=rfl
def AoS(l:List Int)(F:List Bool){k a:Nat}(h:Dy l F k=some a):a<k:=(NC l F k a h).lt
def AfS(p:Option Addr)(n cap g:Nat)(l:List Int)(F:List Bool)(R:Option Nat)(w:World)(G:Aq w p l)(a9:Hid (l.length=n))(bs:n<=4096)(hF:Hid (F.length=n))(L:FZ w g F)(a':Hid (Dy l F n=R)):Calls prog 120 #[.slice p n cap,.slice (some ⟨g,0,none⟩) n n] w λe w'=>e=.returned (.int .i64 (OG R))/\w'=w:=by
 have ac:=U G;have ba:=U L;clear G L;go_enter func120,ntmps120;go_wp2;go_loopw[5,10] (λu v wr=>∃(k:Nat) (o:Option Nat),u=.int .i64 (OG o)/\v=.int .i64 k/\k<=n/\Hid (Dy l F k=o)/\wr=w) (λ_ v _=>n-(intOf v).toNat)
 case atStart=>exact⟨0,none,rfl,rfl,Au _,rfl,rfl⟩
 case round=>
  obtain⟨k,o,rfl,rfl,bt,h,rfl⟩:=hrel;by_cases ad:k<n
  ·have s:k<l.length:=by rw[a9.out];exact ad
   obtain⟨b,ff,rfl,bb⟩:=ac.out k s;obtain⟨x,m⟩:∃x,l.getD k 0=x:=⟨_,rfl⟩;rw[m]at bb;have am:=ba.out.cell (k:=k) (by rw[hF.out];exact ad);have c:=AoT l F k;rw[h.out,m]at c;cases q:F.getD k true with
   | true =>
    rw[q]at am c;have c6:Hid (Dy l F (k+1)=o):=by
     unfold Hid;rw[c];cases o with
     | none=>rfl
     | some a=>simp
    clear c q m s h;go_wp2;go_roundw
    case rel=>exact⟨k+1,o,rfl,An,O,c6,Dr⟩
    case measure=>simp[intOf];omega
   | false =>
    rw[q]at am c;cases o with
    | none =>
     have c6:Hid (Dy l F (k+1)=some k):=by unfold Hid;rw[c];rfl
     simp only[OG];clear c q m s h;exact AyI
    | some a =>
     have bv:=AoS l F h.out;obtain⟨bx,b0,bc,bd⟩:=ac.out a O;cases bc;obtain⟨y,A⟩:∃y,l.getD a 0=y:=⟨_,rfl⟩;simp only at c;rw[A]at bd c;have b1:a<n:=O;simp only[OG];have be:¬((a:Int)<0):=O;have b2:decide ((a:Int)<0)=false:=Ai be;by_cases C:x<y
     ·have c6:Hid (Dy l F (k+1)=some k):=by unfold Hid;rw[c];simp[C]
      clear c q m A s h;exact AyI
     ·have c6:Hid (Dy l F (k+1)=some a):=by unfold Hid;rw[c];simp[C]
      have b3:decide (x<y)=false:=Ai C;clear c q m A s h;go_wp2;go_roundw
      case rel=>exact⟨k+1,some a,rfl,An,O,c6,Dr⟩
      case measure=>simp[intOf];omega
  ·obtain rfl:k=n:=by omega
   have bl:Hid (o=R):=by unfold Hid;rw[<-h.out,a'.out]
   go_wp2;go_ret;exact⟨by rw[bl.out];rfl,rfl⟩
def XQ{w w1 w2:World}{row c:Option Nat}(h:w.grownBy w1 row)(k:w1.grownBy w2 c)(q:∀b,b<w.heap.size->row≠some b->c≠some b):w.grownBy w2 row:=
 ⟨k.os.trans h.os,k.tape.trans h.tape,k.output.trans h.output,Af h.size k.size,λi dI m=>
  (k.block i (Ci dI h.size) (λe=>q i dI (λs=>m s.symm) e.symm)).trans (h.block i dI m)⟩
def Ae'{a b c:Option Nat}{m n:Nat}(h:∀i,i<m->a≠some i->b≠some i)(k:∀i,i<n->b≠some i->c≠some i)(e:m<=n):∀i,i<m->a≠some i->c≠some i:=
 λi dI q=>k i (Ci dI e) (h i dI q)
def QS(w:World)(row:Option Nat):w.grownBy w row:=⟨rfl,rfl,rfl,Ac _,λ_ _ _=>rfl⟩
def Ae_{P: Program}(t e: TypeId)(i: TypeInfo)(z: Value)(ep: P.underlying t = some (.slice e))(dI: P.info? e = some i)(b5: i.zero = some z)
  (kz ky:IntKind) (n c:Nat) (b:n<=c) (k:i.bytes*c<=281474976710656) (m:c<=9223372036854775807) (w:World) :
  (Instr.makeSlice t (.int kz (n:Int)) (.int ky (c:Int))).run P w=.ok (.slice (some ⟨w.heap.size,0,none⟩) n c) (w.alloc (.cells (madeCells z.cells (c*i.size)) e)):=Aye
def TB(c:Nat):Obj:=.cells (madeCells (Value.cells (.int .u8 0)) (c*1)) 5
def Atd(c:Nat)(m:c<=4194304)(w:World):(Instr.makeSlice 47 (.int .i64 0) (.int .i64 (c:Int))).run prog w=.ok (.slice (some ⟨w.heap.size,0,none⟩) 0 c) (w.alloc (TB c)):=by
 obtain⟨b,dI,e,k,dE⟩:=Cp info5;have h:=Ae_ (P:=prog) 47 5 b _ underlying47 dI e .i64 .i64 0 c (Au _) I3 O w;rw[k]at h;exact h
theorem BC.made(w:World)(B c:Nat)(b:B<=w.heap.size)(C:c<=4194304):BC (w.alloc (TB c)) B (.slice (some ⟨w.heap.size,0,none⟩) 0 c) []:=by
 have h:(w.alloc (TB c)).ownsRow B 5 1 (.slice (some ⟨w.heap.size,0,none⟩) 0 c) 0 []:=World.ownsRow_made w _ c b BQ (R5 _ _);obtain⟨F,k⟩:=h;rcases k with⟨e,_⟩|⟨g,cap,m,e,q,s,G,A,b2,L⟩
 ·cases e
 ·cases e;exact⟨w.heap.size,c,m,(0,0),rfl,q,s,.inr rfl,Au _,A,RD,J⟩
def Abk(l:List Int):∀(k:Nat),k<l.length->Bm (l.take (k+1))=Bm (l.take k)++(if Cj (l.getD k 0)=true then [l.getD k 0]else []):=by
 intro k h;have e:l.take (k+1)=l.take k++[l.getD k 0]:=C4 l k h;have m:∀(a b:List Int),Bm (a++b)=Bm a++Bm b:=by
  intro a b;unfold Bm C8
  induction a with
  | nil=>simp[AW]
  | cons c a q =>
   simp only[CH,BH,AW];rw[q];split<;>simp
 rw[e,m];congr 1
def Ajx(w:World)(xs:List Int)(e:Ending)(w':World):Prop:=
 ∃v,e=.returned v/\BC w' w.heap.size v xs/\Below w.heap.size w w'
def Aku(p:Option Addr)(n cap:Nat)(l X:List Int)(w:World)(L:Aq w p l)(bx:Hid (l.length=n))(b6:n<=4096)(ba:Hid (∀c∈l,BO c=true))(bb:Hid (Bm l=X)):Calls prog 173 #[.slice p n cap] w (Ajx w X):=by
 have bc:=U L;have bd:=Atd (n+1) O;have be:=U (BC.made w w.heap.size (n+1) (Ac _) O);have bl:=U ((Al w.heap.size w).alloc (Ac _) (TB (n+1)));have ac:((n+1:Nat):Int)=(n:Int)+1:=O;rw[ac]at bd;clear L ac;go_enter func173,ntmps173;go_wp2;go_loopw[3,12] (λvv u wr=>∃k:Nat,u=.int .i64 k/\k<=n/\Hid (BC wr w.heap.size vv (Bm (l.take k)))/\Hid (Below w.heap.size w wr)) (λ_ u _=>n-(intOf u).toNat)
 case atStart=>exact⟨0,rfl,Au _,be,bl⟩
 case round=>
  obtain⟨k,rfl,b7,A,m⟩:=hrel;by_cases bs:k<n
  ·have C:k<l.length:=by rw[bx.out];exact bs
   obtain⟨b,ff,rfl,bt⟩:=(bc.out.below m.out) k C;obtain⟨x,F⟩:∃x,l.getD k 0=x:=⟨_,rfl⟩;have ad:BO x=true:=by rw[<-F];exact ba.out _ (by simp[C])
   have bv:=LH ad;have q:=U (Abk l k C);rw[F]at bt q;clear F C ad;cases h:Cj x with
   | true =>
    have G:=U h;have b0:x<128:=by unfold Cj at h;exact If h
    rw[h]at q;have b8:IntKind.u8.wrap x=x:=LR;have b1:Hid ((Bm (l.take k)).length+1<=140737490452480):=by
     have:=Ks (l.take k) (C8 (l.take k));have b9:(l.take k).length<=k:=Ae;unfold Hid;unfold Bm;omega
    have am:=U m.out.size;clear h bv b0;go_wp2_with (first
     | (go_at_call 243;refine(OC x true _ G).mono ?_;rintro e w1 ⟨rfl,rfl⟩)
     | (at_builtin;refine UA rfl _ _ rfl w.heap.size _ (Bm (l.take k)) rfl A.out x 1 _ rfl rfl b1.out am.out ?_;intro b2 w2 a9 a' b3))
    have s:Hid (BC w2 w.heap.size b2 (Bm (l.take (k+1)))):=by unfold Hid;rw[q.out];exact a9
    have b4:Hid (Below w.heap.size w w2):=m.out.grown a' am.out (λj b5=>A.out.base j b5);clear a9 a' b3;go_wp2;go_roundw
    case rel=>exact⟨k+1,An,O,s,b4⟩
    case measure=>simp[intOf];omega
   | false =>
    have G:=U h;rw[h]at q;have s:Hid (BC wr w.heap.size u3 (Bm (l.take (k+1)))):=by unfold Hid;rw[q.out];simpa using A.out
    clear h;go_wp2_with (go_at_call 243;refine(OC x false _ G).mono ?_;rintro e w1 ⟨rfl,rfl⟩);go_roundw
    case rel=>exact⟨k+1,An,O,s,m.out⟩
    case measure=>simp[intOf];omega
  ·obtain rfl:k=n:=by omega
   have s:Hid (BC wr w.heap.size u3 X):=by
    have:=A.out;rw[AO H6,bb.out]at this;exact this
   go_wp2;go_ret;exact⟨_,rfl,s.out,m.out⟩
def F5(w:World)(g:Nat)(b c e h v4:Value):Prop:=
 w.cell? ⟨g,0,none⟩=some b/\w.cell? ⟨g,1,none⟩=some c/\w.cell? ⟨g,2,none⟩=some e/\w.cell? ⟨g,3,none⟩=some h/\w.cell? ⟨g,4,none⟩=some v4/\(∀k,w.frozen? ⟨g,k,none⟩=false)/\g<w.heap.size
theorem F5.grown{w w':World}{g:Nat}{e m q s v4:Value}{row:Option Nat}(h:F5 w g e m q s v4)(b:w.grownBy w' row)(c:row≠some g):F5 w' g e m q s v4:=by
 obtain⟨C,F,G,L,ac,ad,A⟩:=h;exact⟨b.cell C (JY c),b.cell F (JY c),b.cell G (JY c),b.cell L (JY c),b.cell ac (JY c),λk=>(EN (b.block g A (JY c))).trans (ad k),Ci A b.size⟩
theorem F5.drewN{w:World}{g:Nat}{b c e k v4:Value}(h:F5 w g b c e k v4)(n:Nat):F5 (w.drewN n) g b c e k v4:=h
theorem F5.drew{w:World}{g:Nat}{b c e k v4:Value}(h:F5 w g b c e k v4):F5 w.drew g b c e k v4:=h
theorem F5.aE{w:World}{g:Nat}{m b c e v4:Value}(h:F5 w g m b c e v4)(v:Value):F5 (w.setCell ⟨g,0,none⟩ v) g v b c e v4:=by
 obtain⟨q,s,A,C,F,G,cl⟩:=h;exact⟨E7 _ _ _ q,(AY _ _ _ _ J).trans s,(AY _ _ _ _ J).trans A,(AY _ _ _ _ J).trans C,(AY _ _ _ _ J).trans F,λk=>(DC _ _ _ _).trans (G k),UE⟩
theorem F5.aK{w:World}{g:Nat}{b m c e v4:Value}(h:F5 w g b m c e v4)(v:Value):F5 (w.setCell ⟨g,1,none⟩ v) g b v c e v4:=by
 obtain⟨q,s,A,C,F,G,cl⟩:=h;exact⟨(AY _ _ _ _ J).trans q,E7 _ _ _ s,(AY _ _ _ _ J).trans A,(AY _ _ _ _ J).trans C,(AY _ _ _ _ J).trans F,λk=>(DC _ _ _ _).trans (G k),UE⟩
theorem F5.aF{w:World}{g:Nat}{b c m e v4:Value}(h:F5 w g b c m e v4)(v:Value):F5 (w.setCell ⟨g,2,none⟩ v) g b c v e v4:=by
 obtain⟨q,s,A,C,F,G,cl⟩:=h;exact⟨(AY _ _ _ _ J).trans q,(AY _ _ _ _ J).trans s,E7 _ _ _ A,(AY _ _ _ _ J).trans C,(AY _ _ _ _ J).trans F,λk=>(DC _ _ _ _).trans (G k),UE⟩
theorem F5.bC{w:World}{g:Nat}{b c e m v4:Value}(h:F5 w g b c e m v4)(v:Value):F5 (w.setCell ⟨g,3,none⟩ v) g b c e v v4:=by
 obtain⟨q,s,A,C,F,G,cl⟩:=h;exact⟨(AY _ _ _ _ J).trans q,(AY _ _ _ _ J).trans s,(AY _ _ _ _ J).trans A,E7 _ _ _ C,(AY _ _ _ _ J).trans F,λk=>(DC _ _ _ _).trans (G k),UE⟩
theorem F5.bD{w:World}{g:Nat}{b c e m v4:Value}(h:F5 w g b c e m v4)(v:Value):F5 (w.setCell ⟨g,4,none⟩ v) g b c e m v:=by
 obtain⟨q,s,A,C,F,G,cl⟩:=h;exact⟨(AY _ _ _ _ J).trans q,(AY _ _ _ _ J).trans s,(AY _ _ _ _ J).trans A,(AY _ _ _ _ J).trans C,E7 _ _ _ F,λk=>(DC _ _ _ _).trans (G k),UE⟩
theorem F5.new(w:World)(b c e h v4:Value)(m:TypeId):F5 (w.alloc (.cells #[b,c,e,h,v4] m)) w.heap.size b c e h v4:=by
 refine⟨?_,?_,?_,?_,?_,λk=>?_,?_⟩<;>simp[Cy]
def Ik(w:World)(g:Nat)(n:Int)(i P b:Nat)(later:Bool):Prop:=F5 w g (.int .i64 n) (.int .i64 i) (.int .i64 P) (.int .i64 b) (.bool later)
def Ago(P:Nat)(w:World):Calls prog 174 #[.int .i64 P] w λe w'=>e=.returned (.agg #[.int .i64 128,.int .i64 0,.int .i64 P,.int .i64 72,.bool false])/\Below w.heap.size w w':=by
 go_enter func174,ntmps174;go_wp2;refine FF (R3 rfl _ _ w.heap.size _ _ _ _ rfl (IC _ _) underlying155 rfl Ax) rfl ?_;exact ZX
def At3(g:Nat)(n:Int)(i P b:Nat)(later:Bool)(c:Int)(j:Nat)(v:Int)(w:World)(A:Ik w g n i P b later)(C:P<=4096)(F:0<=n)(G:n<=1114111)(L:0<=c)(ac:c<=1114111)(dI:i<=4096)(ad:j<=4096)(k:Hid ((c-n)*((P:Int)+1)+j-i=v)):Calls prog 176 #[.pointer (some ⟨g,0,none⟩),.int .i64 c,.int .i64 j] w λe w'=>e=.returned (.int .i64 v)/\∃q,w'=w.drewN q:=by
 obtain⟨am,a9,a',ba,bb,bc,bd⟩:=A;have m : -4564517778<=(c-n)*((P:Int)+1)/\(c-n)*((P:Int)+1)<=4564517778:=by
  have e:(c-n).natAbs*(P+1)<=1114111*4097:=Oe O O;have be:((c-n)*((P:Int)+1)).natAbs=(c-n).natAbs*(P+1):=by
   rw[Int.natAbs_mul];congr 1
  omega
 obtain⟨M,h⟩:∃M,(c-n)*((P:Int)+1)=M:=⟨_,rfl⟩;rw[h]at m;have s:M+j-i=v:=by rw[<-h];exact k.out
 have w1:IntKind.i64.wrap (c-n)=c-n:=AT _ O;have w2:IntKind.i64.wrap ((P:Int)+1)=(P:Int)+1:=AT _ O;have w3:IntKind.i64.wrap ((c-n)*((P:Int)+1))=M:=by rw[h];exact AT _ O
 have bl:IntKind.i64.wrap (M+(j:Int))=M+j:=AT _ O;have bs:IntKind.i64.wrap (M+(j:Int)-(i:Int))=v:=by rw[AT _ O];exact s
 clear s h k m;go_enter func176,ntmps176;go_wp2;go_quiet (fail);go_wp2;go_ret;exact⟨rfl,_,rfl⟩
def Ark(p:Option Addr)(n cap a P:Nat)(l:List Int)(w:World)(c:Aq w p l)(L:Hid (l.length=n))(be:n<=1099511627776)(bl:n<=cap)(a9:a<n)(a':Hid (Kr l a=P)):Calls prog 177 #[.slice p n cap,.int .i64 a] w λe w'=>e=.returned (.int .i64 P)/\∃q,w'=w.drewN q:=by
 have ba:=U c;obtain⟨b,ff,rfl,ac⟩:=c a (by rw[L.out];exact a9);obtain⟨y,h⟩:∃y,l.getD a 0=y:=⟨_,rfl⟩;rw[h]at ac;have bs:a<=cap:=O;have bb:Hid (Fm y (l.take a)=P):=by unfold Hid;rw[<-h];exact a'.out
 clear c h;go_enter func177,ntmps177;go_wp2;go_loopw[5,12] (λu v wr=>∃k m:Nat,u=.int .i64 m/\v=.int .i64 k/\k<=a/\m<=k/\Hid (Fm y (l.take k)=m)/\∃q,wr=w.drewN q) (λ_ v _=>a-(intOf v).toNat)
 case atStart=>exact⟨0,0,rfl,rfl,Au _,Ac _,rfl,0,rfl⟩
 case round=>
  obtain⟨k,m,rfl,rfl,bt,bv,ad,q,rfl⟩:=hrel;by_cases bx:k<a
  ·have s:k<l.length:=by rw[L.out];omega
   obtain⟨b0,b1,bc,A⟩:=ba.out k s;cases bc;obtain⟨x,C⟩:∃x,l.getD k 0=x:=⟨_,rfl⟩;rw[C]at A;have b2:(w.drewN q).cell? ⟨b,ff+k,none⟩=some (.int .i64 x):=A;have b3:(w.drewN q).cell? ⟨b,ff+a,none⟩=some (.int .i64 y):=ac;have am:Hid (Fm y (l.take (k+1))=m+(if x<=y then 1 else 0)):=by
    unfold Hid;rw[C4 l k s,AbT,ad.out,C];simp[Fm]
   have b4:k<n:=O;clear C s A;by_cases F:x<=y
   ·have G:Hid (Fm y (l.take (k+1))=m+1):=by unfold Hid;rw[am.out,N F]
    go_wp2;go_roundw
    case rel=>exact⟨k+1,m+1,An,An,O,O,G,q,rfl⟩
    case measure=>simp[intOf];omega
   ·have G:Hid (Fm y (l.take (k+1))=m):=by unfold Hid;rw[am.out,V F];rfl
    have b5:decide (x<=y)=false:=Ai F;go_wp2;go_roundw
    case rel=>exact⟨k+1,m,rfl,An,O,O,G,q,rfl⟩
    case measure=>simp[intOf];omega
  ·obtain rfl:k=a:=by omega
   have bd:Hid (m=P):=by unfold Hid;rw[<-ad.out,bb.out]
   go_wp2;go_ret;exact⟨by rw[bd.out];rfl,q,rfl⟩
def AjK(B:Nat)(v:Value)(h:List Int)(w:World)(e:Ending)(w':World):Prop:=
 ∃c,e=.returned c/\BC w' B c h/\w.grownBy w' v.ownBlock/\∀b,b<w.heap.size->v.ownBlock≠some b->c.ownBlock≠some b
def Akf(B:Nat)(v:Value)(xs c:List Int)(N b:Nat)(w:World)(b0:B<=w.heap.size)(ba:BC w B v xs)(b':xs.length<=1099511627776)(b1:N<=2147483647)(ca:b<=70368744177664)(b2:Hid (xs++(Dn b 0 N).map CE=c)):Calls prog 178 #[v,.int .i64 N,.int .i64 b] w (AjK B v c w):=by
 have b3:=Lib.hid ba
 clear ba
 go_enter func178,ntmps178
 go_wp2
 go_loopw[0,1,7] (λvv u t wr=>∃(M j:Nat) (ao:List Int),u=.int .i64 M/\t=.int .i64 j/\M<=2147483647/\j<=2147483648-M/\ao.length<=xs.length+j/\Hid (ao++(Dn b j M).map CE=c)/\Hid (BC wr B vv ao)/\Hid (w.grownBy wr v.ownBlock)/\Hid (∀k,k<w.heap.size->v.ownBlock≠some k->vv.ownBlock≠some k)) (λ_ u _ _=>(intOf u).toNat)
 case atStart=>exact⟨N,0,xs,rfl,rfl,b1,by omega,by omega,b2,b3,QS _ _,λ_ _ h=>h⟩
 case round=>
  obtain⟨M,j,ao,rfl,rfl,cb,cc,cd,bb,bc,m,C⟩:=hrel
  obtain⟨T,F⟩:∃T,BV b j=T:=⟨_,rfl⟩
  obtain⟨b4,b5⟩:=Ix b j
  rw[F]at b4 b5
  have bd:=Lib.hid F
  have G:Hid (Dn b j M=if M<T then [M] else(T+(M-T)%(36-T))::Dn b (j+1) ((M-T)/(36-T))):=by
   unfold Hid;rw[Dn,F];split<;>rfl
  have be:Hid (B<=wr.heap.size):=Nat.le_trans b0 m.out.size
  clear F
  by_cases bl:M<T
  ·have ac:Hid (ao++[CE M]=c):=by unfold Hid;rw[<-bb.out,G.out,if_pos bl];rfl
   have b6:M<36:=by omega
   go_wp2_with (first
    | (go_at_call 247;refine(Ri j b T _ (by omega) (by omega) bd).mono ?_;rintro e w1 ⟨rfl,rfl⟩)
    | (go_at_call 248;refine(Acq M (CE M) _ b6 rfl).mono ?_;rintro e w2 ⟨rfl,rfl⟩)
    | (at_builtin;refine UA rfl _ _ rfl B _ ao rfl bc.out (CE M) 1 _ rfl rfl (by omega) be.out ?_;intro bs w3 q s A))
   have ad:Hid (BC w3 B bs c):=by rw[<-ac.out];exact q
   have am:=Lib.hid (XQ m.out s C.out)
   have a9:=Lib.hid (Ae' C.out A m.out.size)
   clear q s A
   go_wp2
   go_ret
   exact⟨_,rfl,ad.out,am.out,a9.out⟩
  ·obtain⟨f,bt⟩:∃f,36-T=f:=⟨_,rfl⟩
   obtain⟨R,bv⟩:∃R,M-T=R:=⟨_,rfl⟩
   obtain⟨Q,L⟩:∃Q,R/f=Q:=⟨_,rfl⟩
   obtain⟨D,a'⟩:∃D,T+R%f=D:=⟨_,rfl⟩
   rw[bt,bv,L,a',if_neg bl]at G
   have ac:Hid ((ao++[CE D])++(Dn b (j+1) Q).map CE=c):=by unfold Hid;rw[<-bb.out,G.out];simp
   have ce:10<=f:=by omega
   have b7:R%f<f:=Nat.mod_lt _ (by omega)
   have b8:D<36:=by omega
   have cf:Q<=R:=by rw[<-L];exact Nat.div_le_self _ _
   have cg:(M:Int)-(T:Int)=(R:Int):=by omega
   have ci:(36:Int)-(T:Int)=(f:Int):=by omega
   have b9:(R:Int).tmod (f:Int)=((R%f:Nat):Int):=rfl
   have cj:(R:Int).tdiv (f:Int)=(Q:Int):=by rw[<-L];rfl
   obtain⟨r,bx⟩:∃r,R%f=r:=⟨_,rfl⟩
   rw[bx]at b9 b7 a'
   have cl:(T:Int)+(r:Int)=(D:Int):=by omega
   have cm:¬((M:Int)<(T:Int)):=by omega
   have co:R+1<=M:=by omega
   clear bt bv L a' bx G
   go_wp2_with (first
    | (go_at_call 247;refine(Ri j b T _ (by omega) (by omega) bd).mono ?_;rintro e w1 ⟨rfl,rfl⟩)
    | (go_at_call 248;refine(Acq D (CE D) _ b8 rfl).mono ?_;rintro e w2 ⟨rfl,rfl⟩)
    | (at_builtin;refine UA rfl _ _ rfl B _ ao rfl bc.out (CE D) 1 _ rfl rfl (by omega) be.out ?_;intro bs w3 q s A))
   have ad:=Lib.hid q
   have am:=Lib.hid (XQ m.out s C.out)
   have a9:=Lib.hid (Ae' C.out A m.out.size)
   clear q s A
   go_wp2
   go_roundw
   case rel=>exact⟨Q,j+1,ao++[CE D],rfl,by go_num,by omega,by omega,by simp;omega,ac,ad,am,a9⟩
   case measure=>simp[intOf];omega
def Afe(g:Nat)(n:Int)(i P b:Nat)(later:Bool)(N k m A:Nat)(w:World)(bv:Ik w g n i P b later)(bx:P+1<=4096)(b9:0<=n)(b':n<=1099511627776)(dI:i<=4096)(ca:N<=2147483647)(bb:Hid ((N+i)/(P+1)=k))(bc:Hid ((N+i)%(P+1)=m))(b0:Hid (Fi N (P+1) (!later)=A)):Calls prog 179 #[.pointer (some ⟨g,0,none⟩),.int .i64 N] w λe w'=>e=.returned (.tuple #[.int .i64 (n+k),.int .i64 m])/\Ik w' g (n+k) (m+1) (P+1) A true/\w.grownBy w' (some g):=by
 have b6:=U bv;obtain⟨q,s,C,F,G,c,L⟩:=bv;obtain⟨S,am⟩:∃S,N+i=S:=⟨_,rfl⟩;obtain⟨h,ac⟩:∃h,P+1=h:=⟨_,rfl⟩;have cb:k<=S:=by rw[<-bb.out,am];exact Je _ _
 have cc:m<h:=by rw[<-bc.out,<-ac];exact Od _ O
 have cd:(N:Int)+(i:Int)=(S:Int):=O;have ce:(P:Int)+1=(h:Int):=O;have cf:(S:Int).tdiv (h:Int)=(k:Int):=by rw[<-bb.out,<-am,<-ac];rfl
 have cg:(S:Int).tmod (h:Int)=(m:Int):=by rw[<-bc.out,<-am,<-ac];rfl
 have w1:IntKind.i64.wrap (h:Int)=(h:Int):=AT _ O;have w2:IntKind.i64.wrap (k:Int)=(k:Int):=AT _ O;have w3:IntKind.i64.wrap (n+(k:Int))=n+(k:Int):=AT _ O;rw[ac]at bx b0|-;have ci:=U ac;have b1:=c 0;have b2:=c 1;have b7:=c 2;have ad:=c 3;have b3:=c 4;clear am ac bb bc c;go_enter func179,ntmps179;go_wp2;go_quiet (fail);go_upto_region 4 with(fail);have a9:Hid (Ik ((w.drewN nq).setCell ⟨g,2,none⟩ (.int .i64 h)) g n i h b later):=(b6.out.drewN nq).aF _;have bd:Hid (w.grownBy ((w.drewN nq).setCell ⟨g,2,none⟩ (.int .i64 h)) (some g)):=A5 (Em (QS w (some g)) nq) (GU _ g 2 _);generalize (w.drewN nq).setCell ⟨g,2,none⟩ (.int .i64 h)=a' at a9 bd|-;clear q s C F G L b1 b2 b7 ad b3;obtain⟨q,s,C,F,G,c,L⟩:=a9.out;have ad:=c 3;clear c;go_still_tail 14,Ax
 still_call (AjY N h A _ _ O O bx b0)
 repeat still_step
 refine wpStill_nil ?_;change wpList _ _ _ _ _ a'.drew;have ba:Hid (Ik a'.drew g n i h b later):=a9.out.drew;have be:Hid (w.grownBy a'.drew (some g)):=OB bd.out;clear q s C F G L ad a9 bd;generalize a'.drew=bl at ba be|-;obtain⟨q,s,C,F,G,c,L⟩:=ba.out;have ad:=c 3;clear c;go_upto_region 5 with(fail);have bs:Hid (Ik (bl.setCell ⟨g,3,none⟩ (.int .i64 A)) g n i h A later):=ba.out.bC _;have b4:Hid (w.grownBy (bl.setCell ⟨g,3,none⟩ (.int .i64 A)) (some g)):=A5 be.out (GU _ g 3 _);clear q s C F G L ad ba be;generalize bl.setCell ⟨g,3,none⟩ (.int .i64 A)=cj at bs b4|-;obtain⟨q,s,C,F,G,c,L⟩:=bs.out;have b1:=c 0;have b2:=c 1;have b3:=c 4;obtain⟨bt,b5⟩:∃bt,m+1=bt:=⟨_,rfl⟩;have cl:(m:Int)+1=(bt:Int):=O;have b8:=U b5;clear c b5;go_wp2;go_ret2;refine⟨rfl,?_,?_⟩
 ·rw[b8.out];exact((bs.out.aE _).aK _).bD _
 exact(A5 (A5 (A5 b4.out (GU _ g 0 _)) (GU _ g 1 _)) (GU _ g 4 _))
end Go.Proofs.YtblcoicaeeiojaaGreatDoor
