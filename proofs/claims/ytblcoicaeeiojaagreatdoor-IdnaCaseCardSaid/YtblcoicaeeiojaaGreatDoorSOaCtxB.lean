/- context: contracts of th -/
import Derived.Test.YtblcoicaeeiojaaGreatDoorSOaPmCtxFact
set_option linter.all false
set_option maxHeartbeats 4000000
set_option maxRecDepth 100000
open Go.Proofs.Tryz
namespace Go.Proofs.YtblcoicaeeiojaaGreatDoor
open Go.RowKit
def Abo{B:Bool}{p:Prop}[Decidable p](h:p↔B=true):B=decide p:=by cases B<;>simp_all
def AbL(c k:Int)(w:World)(ba:Hid (Gu c=k)):Calls prog 275 #[.int .i64 c] w (Ar (.int .i64 k) w):=by
 by_cases jf:c=183
 ·subst jf;obtain rfl:k=1:=Aib;exact RJ
 by_cases jg:c=885
 ·subst jg;obtain rfl:k=2:=Aib;exact RJ
 by_cases jI:c=12539
 ·subst jI;obtain rfl:k=4:=Aib;exact RJ
 have q:(c==183)=false:=by simp[jf]
 have s:(c==885)=false:=by simp[jg]
 have A:(c==12539)=false:=by simp[jI]
 by_cases C:c<1523
 ·have b:decide (1523<=c)=false:=Ai O;exact AAk
 by_cases F:c<1525
 ·have b:decide (1523<=c)=true:=At O;have e:decide (c<=1524)=true:=At O;have jH:decide (1632<=c)=false:=Ai O;have fX:decide (1776<=c)=false:=Ai O;obtain rfl:k=3:=by rw[<-ba.out];unfold Gu;rw[V jf,V jg,N O]
  clear jf jg jI;exact RJ
 by_cases G:c<1632
 ·have b:decide (1523<=c)=true:=At O;have e:decide (c<=1524)=false:=Ai O;exact AAk
 by_cases L:c<1642
 ·have b:decide (1523<=c)=true:=At O;have e:decide (c<=1524)=false:=Ai O;have jH:decide (1632<=c)=true:=At O;have h:decide (c<=1641)=true:=At O;have fX:decide (1776<=c)=false:=Ai O;obtain rfl:k=5:=by rw[<-ba.out];exact Ado.2 (VB.2 O)
  clear jf jg jI;exact RJ
 by_cases ac:c<1776
 ·have b:decide (1523<=c)=true:=At O;have e:decide (c<=1524)=false:=Ai O;have jH:decide (1632<=c)=true:=At O;have h:decide (c<=1641)=false:=Ai O;have fX:decide (1776<=c)=false:=Ai O;exact AiA
 by_cases ad:c<1786
 ·have b:decide (1523<=c)=true:=At O;have e:decide (c<=1524)=false:=Ai O;have jH:decide (1632<=c)=true:=At O;have h:decide (c<=1641)=false:=Ai O;have fX:decide (1776<=c)=true:=At O;have m:decide (c<=1785)=true:=At O;obtain rfl:k=6:=by rw[<-ba.out];exact Adp.2 (V_.2 O)
  clear jf jg jI;exact RJ
 have b:decide (1523<=c)=true:=At O;have e:decide (c<=1524)=false:=Ai O;have jH:decide (1632<=c)=true:=At O;have h:decide (c<=1641)=false:=Ai O;have fX:decide (1776<=c)=true:=At O;have m:decide (c<=1785)=false:=Ai O;exact AiA
def SO(p:Option Addr)(n cap:Nat)(ao:List Int)(i V:Int)(w:World)(c:Aq w p ao)(bb:Hid (ao.length=n))(ex:Hid (BJ ao i=V)):Calls prog 277 #[.slice p n cap,.int .i64 i] w (Ar (.int .i64 V) w):=by
 have A:=U c;clear c;by_cases e:i<0
 ·have C:decide (i<0)=true:=At e;obtain rfl:V = -1:=AzE;clear ex;exact Ai0
 ·have C:decide (i<0)=false:=Ai e;by_cases k:(n:Int)<=i
  ·have F:decide ((n:Int)<=i)=true:=At k;obtain rfl:V = -1:=AzF;clear ex;exact Ai0
  ·have F:decide ((n:Int)<=i)=false:=Ai k;obtain⟨m,rfl⟩:∃m:Nat,i=m:=⟨i.toNat,O⟩;have q:m<ao.length:=FD;obtain⟨b,ff,rfl,G⟩:=A.out m q;have s:ao.getD m 0=V:=by rw[<-ex.out,L8 q]
   rw[s]at G;have L:(0:Int)<=(m:Int):=O;have ac:(m:Int)<(n:Int):=O;have ad:¬n<=m:=O;clear ex s;exact Ai0
def AsI{w: World}{b: Nat}{x y z u v q: Value}{t: TypeId}(h: w.heap[b]? = some (.cells #[x, y, z] t (0, 0))) :
  (((w.setCell ⟨b,0,none⟩ u).setCell ⟨b,1,none⟩ v).setCell ⟨b,2,none⟩ q).heap[b]? = some (.cells #[u,v,q] t (0,0)):=AyW
def Fe(w:World)(g:Nat)(a b c:Bool):Prop:=
 w.cell? ⟨g,0,none⟩=some (.bool a)/\w.cell? ⟨g,1,none⟩=some (.bool b)/\w.cell? ⟨g,2,none⟩=some (.bool c)/\w.frozen? ⟨g,0,none⟩=false/\w.frozen? ⟨g,1,none⟩=false/\w.frozen? ⟨g,2,none⟩=false/\g<w.heap.size
theorem Fe.new(w:World)(a b c:Bool)(e:TypeId):Fe (w.alloc (.cells #[.bool a,.bool b,.bool c] e)) w.heap.size a b c:=by
 refine⟨?_,?_,?_,?_,?_,?_,?_⟩<;>simp[Cy]
theorem Fe.below{w w':World}{g:Nat}{a b c:Bool}(h:Fe w g a b c)(ad:Below w.heap.size w w'):Fe w' g a b c:=Avo
theorem Fe.aE{w:World}{g:Nat}{a b c:Bool}(h:Fe w g a b c)(x:Bool):Fe (w.setCell ⟨g,0,none⟩ (.bool x)) g x b c:=Ayh
theorem Fe.aK{w:World}{g:Nat}{a b c:Bool}(h:Fe w g a b c)(x:Bool):Fe (w.setCell ⟨g,1,none⟩ (.bool x)) g a x c:=Ayi
theorem Fe.aF{w:World}{g:Nat}{a b c:Bool}(h:Fe w g a b c)(x:Bool):Fe (w.setCell ⟨g,2,none⟩ (.bool x)) g a b x:=Ayj
theorem AS.dh{w:World}{g k o:Nat}{v:Value}{x:TV}(h:AS w g x)(eQ:g≠k):AS (w.setCell ⟨k,o,none⟩ v) g x:=Ayd
theorem Am.bM{w0 w:World}{x:TV}{T:Y}(h:Am w0 x T w)(c:Ah w0 x T){k o:Nat}{v:Value}(e:w0.heap.size<k):Am w0 x T (w.setCell ⟨k,o,none⟩ v):=
 have b:Below w0.heap.size w0 (w.setCell ⟨k,o,none⟩ v):=h.ab.setCell (p:=⟨k,o,none⟩) (Sn e) v
 ⟨c.below b,h.box.dh O,b⟩
structure GM (w0 w:World) (x:TV) (T:Y) (a b c:Bool):Prop where
 aD:Ah w0 x T
 env:Am w0 x T w
 au:w.heap[w0.heap.size+1]? = some (.cells #[.bool false,.bool false,.bool false] 192 (0,0))
 az:Fe w (w0.heap.size+2) a b c
theorem GM.step{w0 w w':World}{x:TV}{T:Y}{a b c:Bool}(h:GM w0 w x T a b c)(e:Below w.heap.size w w'):GM w0 w' x T a b c:=⟨h.aD,h.env.step e,(e.block _ Axu).trans h.au,h.az.below e⟩
theorem GM.new{w:World}{x:TV}{T:Y}(h:Ah w x T)(b:TypeId):GM w (((w.alloc (.cells (AG x) 26)).alloc (.cells #[.bool false,.bool false,.bool false] 192)).alloc (.cells #[.bool false,.bool false,.bool false] b)) x T false false false:=by
 have bt:(w.alloc (.cells (AG x) 26)).heap.size=w.heap.size+1:=J;have a':=IC (w.alloc (.cells (AG x) 26)) (.cells #[.bool false,.bool false,.bool false] 192);have bd:((w.alloc (.cells (AG x) 26)).alloc (.cells #[.bool false,.bool false,.bool false] 192)).heap.size=w.heap.size+2:=J;have be:=Fe.new ((w.alloc (.cells (AG x) 26)).alloc (.cells #[.bool false,.bool false,.bool false] 192)) false false false b;exact Avw
theorem GM.aE{w0 w:World}{x:TV}{T:Y}{a b c:Bool}(h:GM w0 w x T a b c)(u:Bool):GM w0 (w.setCell ⟨w0.heap.size+2,0,none⟩ (.bool u)) x T u b c:=⟨h.aD,h.env.bM h.aD O,(MN _ _ _ _ J).trans h.au,h.az.aE u⟩
theorem GM.aK{w0 w:World}{x:TV}{T:Y}{a b c:Bool}(h:GM w0 w x T a b c)(u:Bool):GM w0 (w.setCell ⟨w0.heap.size+2,1,none⟩ (.bool u)) x T a u c:=⟨h.aD,h.env.bM h.aD O,(MN _ _ _ _ J).trans h.au,h.az.aK u⟩
theorem GM.aF{w0 w:World}{x:TV}{T:Y}{a b c:Bool}(h:GM w0 w x T a b c)(u:Bool):GM w0 (w.setCell ⟨w0.heap.size+2,2,none⟩ (.bool u)) x T a b u:=⟨h.aD,h.env.bM h.aD O,(MN _ _ _ _ J).trans h.au,h.az.aF u⟩
def AkW(x:TV)(T:Y)(p:Option Addr)(n cap:Nat)(ao:List Int)(K A E:Bool)(w:World)(b5:Ah w x T)(b6:AH 0 T.aj=true)(b7:Aq w p ao)(bb:Hid (ao.length=n))(cp:n<=17592186043904)(b8:Hid (ao.any (DN T)=K))(b9:Hid (ao.any EQ=A))(b':Hid (ao.any EB=E)):Calls prog 239 #[x.agg,.slice p n cap] w (Ar (.agg #[.bool K,.bool A,.bool E]) w):=by
 have b3:=U (GM.new b5 192);have ce:=U b7;have b4:=U b6;clear b5 b7 b6;simp only[AG]at b3;simp only[TV.agg];go_enter func239,ntmps239;go_upto_region 2 with(fail);generalize cf:(((w.alloc _).alloc _).alloc _)=cq at b3|-;clear cf;go_wp2;go_loopw[10] (λi wr=>∃k:Nat,∃a b c:Bool,k<=n/\i=.int .i64 k/\Hid ((ao.take k).any (DN T)=a)/\Hid ((ao.take k).any EQ=b)/\Hid ((ao.take k).any EB=c)/\Hid (GM w wr x T a b c)) (λi _=>n-(intOf i).toNat)
 case atStart=>exact⟨0,false,false,false,Au _,rfl,U rfl,U rfl,U rfl,b3⟩
 case round=>
  obtain⟨k,a,b,c,cr,rfl,be,bl,bs,b2⟩:=hrel;by_cases cg:k<n
  ·have m:k<ao.length:=by rw[bb.out];exact cg
   obtain⟨g,ff,rfl,ca⟩:=(ce.out.below b2.out.env.ab) k m;obtain⟨d,s⟩:∃d,ao.getD k 0=d:=⟨_,rfl⟩;rw[s]at ca;obtain⟨z,bt⟩:∃z,Hid (Ep T d=z):=⟨_,rfl⟩;obtain⟨q,bv⟩:∃q,Hid (Gu d=q):=⟨_,rfl⟩;have i2:Hid ((ao.take (k+1)).any (DN T)=(a||(decide (z=7)||decide (z=8)||decide (z=6)))):=by unfold Hid;rw[P8 (DN T) ao k m,be.out,s];unfold DN;rw[bt.out]
   have hM:Hid ((ao.take (k+1)).any EQ=(b||decide (q=5))):=by unfold Hid;rw[P8 EQ ao k m,bl.out,s,<-bv.out];congr 1;exact Abo Ado
   have iK:Hid ((ao.take (k+1)).any EB=(c||decide (q=6))):=by unfold Hid;rw[P8 EB ao k m,bs.out,s,<-bv.out];congr 1;exact Abo Adp
   clear s m be bl bs;go_wp2_with fail;refine(AbL d q _ bv).mono ?_;rintro e w2 ⟨rfl,h⟩;replace b2:=U (b2.out.step h);clear h ca bv;by_cases bx:q=5
   ·subst bx;replace hM:Hid ((ao.take (k+1)).any EQ=true):=by unfold Hid;rw[hM.out];cases b<;>rfl
    replace iK:Hid ((ao.take (k+1)).any EB=c):=Axz;obtain⟨io,ip,jK,jO,jN,jJ,jM⟩:=b2.out.az;replace b2:=U (b2.out.aK true);go_upto_region 10 with(fail);generalize w2.setCell _ _=ci at b2|-;clear io ip jK jO jN jJ jM;obtain⟨⟨C,F,G,L,ac,ad⟩,⟨am,a9,a',ba,bc,bd⟩⟩:=b2.out.env.box.load;go_wp2_with fail;refine(Rb x T d z _ b2.out.env.tab b4.out bt).mono ?_;rintro e w3 ⟨rfl,h⟩;replace b2:=U (b2.out.step h);clear h;clear C F G L ac ad am a9 a' ba bc bd;by_cases ey:z=7
    ·subst ey;exact Aiy
    ·have cb:(z==7)=false:=by simp[ey]
     by_cases ea:z=8
     ·subst ea;exact Aiy
     ·have cc:(z==8)=false:=by simp[ea]
      by_cases ez:z=6
      ·subst ez;exact Aiy
      ·have cd:(z==6)=false:=by simp[ez]
       have jL:Hid ((ao.take (k+1)).any (DN T)=a):=AhC;clear i2 ey ea ez;go_wp2;go_roundw
       case rel=>exact⟨k+1,a,true,c,O,An,jL,hM,iK,b2⟩
       case measure=>first|(simp[intOf];done)|(simp[intOf];omega)
   ·have cs:(q==5)=false:=by simp[bx]
    replace hM:Hid ((ao.take (k+1)).any EQ=b):=by unfold Hid;rw[hM.out];simp[bx]
    clear bx;by_cases b0:q=6
    ·subst b0;replace iK:Hid ((ao.take (k+1)).any EB=true):=Axz;obtain⟨io,ip,jK,jO,jN,jJ,jM⟩:=b2.out.az;replace b2:=U (b2.out.aF true);go_upto_region 10 with(fail);generalize w2.setCell _ _=ci at b2|-;clear io ip jK jO jN jJ jM;obtain⟨⟨C,F,G,L,ac,ad⟩,⟨am,a9,a',ba,bc,bd⟩⟩:=b2.out.env.box.load;go_wp2_with fail;refine(Rb x T d z _ b2.out.env.tab b4.out bt).mono ?_;rintro e w3 ⟨rfl,h⟩;replace b2:=U (b2.out.step h);clear h;clear C F G L ac ad am a9 a' ba bc bd;by_cases ey:z=7
     ·subst ey;exact Aiw
     ·have cb:(z==7)=false:=by simp[ey]
      by_cases ea:z=8
      ·subst ea;exact Aiw
      ·have cc:(z==8)=false:=by simp[ea]
       by_cases ez:z=6
       ·subst ez;exact Aiw
       ·have cd:(z==6)=false:=by simp[ez]
        have jL:Hid ((ao.take (k+1)).any (DN T)=a):=AhC;clear i2 ey ea ez;go_wp2;go_roundw
        case rel=>exact⟨k+1,a,b,true,O,An,jL,hM,iK,b2⟩
        case measure=>first|(simp[intOf];done)|(simp[intOf];omega)
    ·have ct:(q==6)=false:=by simp[b0]
     replace iK:Hid ((ao.take (k+1)).any EB=c):=by unfold Hid;rw[iK.out];simp[b0]
     clear b0;obtain⟨⟨C,F,G,L,ac,ad⟩,⟨am,a9,a',ba,bc,bd⟩⟩:=b2.out.env.box.load;go_wp2_with fail;refine(Rb x T d z _ b2.out.env.tab b4.out bt).mono ?_;rintro e w3 ⟨rfl,h⟩;replace b2:=U (b2.out.step h);clear h;clear C F G L ac ad am a9 a' ba bc bd;by_cases ey:z=7
     ·subst ey;exact Aix
     ·have cb:(z==7)=false:=by simp[ey]
      by_cases ea:z=8
      ·subst ea;exact Aix
      ·have cc:(z==8)=false:=by simp[ea]
       by_cases ez:z=6
       ·subst ez;exact Aix
       ·have cd:(z==6)=false:=by simp[ez]
        have jL:Hid ((ao.take (k+1)).any (DN T)=a):=AhC;clear i2 ey ea ez;go_wp2;go_roundw
        case rel=>exact⟨k+1,a,b,c,O,An,jL,hM,iK,b2⟩
        case measure=>first|(simp[intOf];done)|(simp[intOf];omega)
  ·obtain rfl:k=n:=by omega
   have b1:ao.length<=k:=ME;obtain rfl:K=a:=by rw[<-b8.out,<-be.out,AO b1]
   obtain rfl:A=b:=by rw[<-b9.out,<-bl.out,AO b1]
   obtain rfl:E=c:=by rw[<-b'.out,<-bs.out,AO b1]
   clear be bl bs b8 b9 b' b1;obtain⟨io,ip,jK,jO,jN,jJ,jM⟩:=b2.out.az;have fe:=b2.out.au;have cj:=Es wr (w.heap.size+1) 0 _ _ (0,0) fe;have cl:=Es wr (w.heap.size+1) 1 _ _ (0,0) fe;have cm:=Es wr (w.heap.size+1) 2 _ _ (0,0) fe;have cu:wr.frozen? ⟨w.heap.size+1,0,none⟩=false:=NW;have cv:wr.frozen? ⟨w.heap.size+1,1,none⟩=false:=NW;have cx:wr.frozen? ⟨w.heap.size+1,2,none⟩=false:=NW;have co:=U fe;clear fe;simp only[Aan,Oa,N']at cj cl cm;go_wp2;refine FF (R3 rfl _ _ (w.heap.size+1) _ _ _ _ rfl (AsI co.out) underlying192 rfl Ax) rfl ?_;exact Azc
def Alb(x:TV)(T:Y)(p:Option Addr)(n cap:Nat)(ao:List Int)(m:Nat)(K A E R:Bool)(w:World)(b3:Ah w x T)(L:AH 0 T.aj=true)(b5:Aq w p ao)(bb:Hid (ao.length=n))(er:m<n)(cu:n<=4096)(ce:Hid (ao.any (DN T)=K))(cj:Hid (ao.any EQ=A))(cl:Hid (ao.any EB=E))(cm:Hid (Gq T ao m=R)):Calls prog 240 #[x.agg,.slice p n cap,.agg #[.bool K,.bool A,.bool E],.int .i64 m] w (Ar (.bool R) w):=by
 have ac:=U (Am.new b3);have am:=U b5;have bv:=U L;clear b3 b5 L;simp only[TV.agg];go_enter func240,ntmps240;go_upto_region 1 with(fail);generalize ba:(w.alloc (.cells (AG x) 26))=G at ac;simp only[AG]at ba
 try rw[ba]
 have co:G.heap.size=w.heap.size+1:=by rw[<-ba];simp
 clear ba;have bx:=Fe.new G K A E 192;have cq:Below G.heap.size G (G.alloc (.cells #[.bool K,.bool A,.bool E] 192)):=(Al _ _).alloc (Ac _) _;replace ac:=U (ac.out.step cq);rw[co]at bx;have cp:=U bx;clear bx cq co;generalize G.alloc _=b at ac cp|-;have b0:m<ao.length:=NY;obtain⟨g,ff,ct,cr⟩:=(am.out.below ac.out.ab) m b0;subst ct;obtain⟨c,b1⟩:∃c,ao.getD m 0=c:=⟨_,rfl⟩;rw[b1]at cr;obtain⟨q,b2⟩:∃q,Hid (Gu c=q):=⟨_,rfl⟩;have b4:Hid (R=(if q=1 then decide (BJ ao ((m:Int)-1)=108)&&decide (BJ ao ((m:Int)+1)=108)else if q=2 then decide (Ep T (BJ ao ((m:Int)+1))=4)else if q=3 then decide (Ep T (BJ ao ((m:Int)-1))=11)else if q=4 then K else if q=5 then !E else if q=6 then !A else true)):=by
  unfold Hid;rw[<-cm.out,AlJ bv.out b0,b1,b2.out,ce.out,cj.out,cl.out]
 have cv:(0:Int)<=(m:Int):=O;have cx:(m:Int)<(n:Int):=O;clear b1 b0 cm ce cj cl;go_wp2_with fail;refine(AbL c q _ b2).mono ?_;rintro e w2 ⟨rfl,ad⟩;replace ac:=U (ac.out.step ad);replace cp:=U (cp.out.below ad);clear ad cr b2;by_cases bc:q=1
 ·subst bc;replace b4:=b4.out;rw[N rfl]at b4;replace b4:=U b4;obtain⟨a,L⟩:∃a,Hid (BJ ao ((m:Int)-1)=a):=⟨_,rfl⟩;obtain⟨d,k⟩:∃a,Hid (BJ ao ((m:Int)+1)=a):=⟨_,rfl⟩;have j_:Hid (R=(decide (a=108)&&decide (d=108))):=by unfold Hid;rw[b4.out,<-L.out,<-k.out]
  have cs:IntKind.i64.wrap ((m:Int)-1)=(m:Int)-1:=AT _ O;have cy:IntKind.i64.wrap ((m:Int)+1)=(m:Int)+1:=AT _ O;clear b4;go_wp2_with fail;refine(SO _ n cap ao _ a _ (am.out.below ac.out.ab) bb L).mono ?_;rintro e w3 ⟨rfl,ad⟩;replace ac:=U (ac.out.step ad);clear ad;by_cases jh:a=108
  ·have la:(a==108)=true:=by simp[jh]
   obtain rfl:R=(d==108):=AwV;clear j_ jh;go_wp2_with fail;refine(SO _ n cap ao _ d _ (am.out.below ac.out.ab) bb k).mono ?_;rintro e cA ⟨rfl,ad⟩;exact Z0
  ·exact AAc
 ·have cB:(q==1)=false:=by simp[bc]
  by_cases bd:q=2
  ·subst bd;replace b4:=b4.out;rw[V Aw,N rfl]at b4;replace b4:=U b4;have cs:IntKind.i64.wrap ((m:Int)+1)=(m:Int)+1:=AT _ O;obtain⟨d,k⟩:∃d,Hid (BJ ao ((m:Int)+1)=d):=⟨_,rfl⟩;obtain⟨z,a9⟩:∃z,Hid (Ep T d=z):=⟨_,rfl⟩;obtain rfl:R=(z==4):=by rw[b4.out,k.out,a9.out];by_cases h:z=4<;>simp[h]
   clear b4;have a':=λs=>Dm (p:=s) λb C=>SO _ n cap ao _ d b ((am.out.below ac.out.ab).below C) bb k;have F:=λs=>Dm (p:=s) λb C=>Rb x T d z b (ac.out.tab.below C) bv.out a9;simp only[TV.agg]at F;have l5:=U a';have l6:=U F;clear a' F;go_upto_region 6 with(fail);exact AxK
  ·have cC:(q==2)=false:=by simp[bd]
   by_cases be:q=3
   ·subst be;replace b4:=b4.out;rw[V Aw,V Aw,N rfl]at b4;replace b4:=U b4;have cs:IntKind.i64.wrap ((m:Int)-1)=(m:Int)-1:=AT _ O;obtain⟨d,k⟩:∃d,Hid (BJ ao ((m:Int)-1)=d):=⟨_,rfl⟩;obtain⟨z,a9⟩:∃z,Hid (Ep T d=z):=⟨_,rfl⟩;obtain rfl:R=(z==11):=by rw[b4.out,k.out,a9.out];by_cases h:z=11<;>simp[h]
    clear b4;have a':=λs=>Dm (p:=s) λb C=>SO _ n cap ao _ d b ((am.out.below ac.out.ab).below C) bb k;have F:=λs=>Dm (p:=s) λb C=>Rb x T d z b (ac.out.tab.below C) bv.out a9;simp only[TV.agg]at F;have l5:=U a';have l6:=U F;clear a' F;go_upto_region 8 with(fail);exact AxK
   ·have cD:(q==3)=false:=by simp[be]
    by_cases bl:q=4
    ·subst bl;replace b4:=b4.out;rw[V Aw,V Aw,V Aw,N rfl]at b4;replace b4:=U b4;obtain rfl:R=K:=b4.out;exact Aje
    ·have cF:(q==4)=false:=by simp[bl]
     by_cases bs:q=5
     ·subst bs;replace b4:=b4.out;rw[V Aw,V Aw,V Aw,V Aw,N rfl]at b4;replace b4:=U b4;obtain rfl:R=(!E):=b4.out;exact Aje
     ·have cI:(q==5)=false:=by simp[bs]
      by_cases bt:q=6
      ·subst bt;replace b4:=b4.out;rw[V Aw,V Aw,V Aw,V Aw,V Aw,N rfl]at b4;replace b4:=U b4;obtain rfl:R=(!A):=b4.out;exact Aje
      ·have cO:(q==6)=false:=by simp[bt]
       replace b4:=b4.out;rw[V bc,V bd,V be,V bl,V bs,V bt]at b4;obtain rfl:R=true:=b4;clear bc bd be bl bs bt;exact Df
end Go.Proofs.YtblcoicaeeiojaaGreatDoor
