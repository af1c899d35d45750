/- puny: contracts of the s -/
import Derived.Test.YtblcoicaeeiojaaGreatDoorSOaPmOwn
import Derived.Test.YtblcoicaeeiojaaGreatDoorSOaPmPunSrt
import Derived.Test.YtblcoicaeeiojaaGreatDoorSOaHdB
import Derived.PlainAid
set_option linter.all false
set_option maxHeartbeats 4000000
open Go.Proofs.Tryz
namespace Go.Proofs.YtblcoicaeeiojaaGreatDoor
open Go.RowKit
def XP{a b:Int}(h:a=b):Ending.returned (.int .i64 a)=.returned (.int .i64 b):=by rw[h]
def Afa{a b:Int}(h:a=b):Ending.returned (.int .u8 a)=.returned (.int .u8 b):=by rw[h]
def ArH{a b:Bool}(h:a=b):Ending.returned (.bool a)=.returned (.bool b):=by rw[h]
def Ri(j b T:Nat)(w:World)(q:j<=1099511627776)(s:b<=70368744177664)(m:Hid (BV b j=T)):Calls prog 247 #[.int .i64 j,.int .i64 b] w λe w'=>e=.returned (.int .i64 T)/\w'=w:=by
 have h:(T:Int)=min 26 (max 1 (36*((j:Int)+1)-b)):=by rw[<-m.out];unfold BV;omega
 rcases(show 36*((j:Int)+1)-b<1\/(¬36*((j:Int)+1)-b<1/\¬1<36*((j:Int)+1)-b)\/(1<36*((j:Int)+1)-b/\36*((j:Int)+1)-b<26)\/(26<=36*((j:Int)+1)-b/\¬26<36*((j:Int)+1)-b)\/26<36*((j:Int)+1)-b by omega)with c|⟨c,k⟩|⟨c,k⟩|⟨c,k⟩|c
 all_goals
  have d8:=U h;clear h;go_enter func247,ntmps247;exact AwE
def Q_(j b T:Nat)(w:World)(q:j<=1099511627776)(s:b<=70368744177664)(m:Hid (BV b j=T)):Calls prog 182 #[.int .i64 j,.int .i64 b] w λe w'=>e=.returned (.int .i64 T)/\w'=w:=by
 have h:(T:Int)=min 26 (max 1 (36*((j:Int)+1)-b)):=by rw[<-m.out];unfold BV;omega
 rcases(show 36*((j:Int)+1)-b<1\/(¬36*((j:Int)+1)-b<1/\¬1<36*((j:Int)+1)-b)\/(1<36*((j:Int)+1)-b/\36*((j:Int)+1)-b<26)\/(26<=36*((j:Int)+1)-b/\¬26<36*((j:Int)+1)-b)\/26<36*((j:Int)+1)-b by omega)with c|⟨c,k⟩|⟨c,k⟩|⟨c,k⟩|c
 all_goals
  have d8:=U h;clear h;go_enter func182,ntmps182;exact AwE
def Acq(v:Nat)(B:Int)(w:World)(h:v<36)(c:Hid (CE v=B)):Calls prog 248 #[.int .i64 v] w λe w'=>e=.returned (.int .u8 B)/\w'=w:=by
 rw[<-c.out];unfold CE;by_cases b:v<26
 ·have k:IntKind.u8.wrap (97+(v:Int))=97+v:=by rw[U8];omega
  go_enter func248,ntmps248;go_wp2;go_ret;refine⟨Afa ?_,rfl⟩
  first|rfl|(rw[N b])
 ·have k:IntKind.u8.wrap (48+(v:Int)-26)=22+v:=by rw[U8];omega
  go_enter func248,ntmps248;go_wp2;go_ret;refine⟨Afa ?_,rfl⟩
  first|rfl|(rw[V b])|omega
def Lk(o:Option Nat):Nat:=match o with|none=>0|some d=>d
def Qn(c:Int)(o:Option Nat)(w:World)(h:0<=c)(k:c<=255)(jq:Hid (Fp c=o)):Calls prog 297 #[.int .u8 c] w λe w'=>e=.returned (.tuple #[.int .i64 (Lk o:Nat),.bool o.isSome])/\w'=w:=by
 by_cases a0:97<=c/\c<=122
 ·obtain⟨eD,et⟩:=a0;obtain rfl:some (c-97).toNat=o:=Aw_;have ac:Hid (((Lk (some (c-97).toNat):Nat):Int)=c-97):=AhH;exact Ajd
 by_cases a1:65<=c/\c<=90
 ·obtain⟨eD,et⟩:=a1;have b:¬97<=c:=O;obtain rfl:some (c-65).toNat=o:=Azh;have ac:Hid (((Lk (some (c-65).toNat):Nat):Int)=c-65):=AhH;exact Ajd
 by_cases a2:48<=c/\c<=57
 ·obtain⟨eD,et⟩:=a2;have b:¬97<=c:=O;have m:¬65<=c:=O;obtain rfl:some (c-22).toNat=o:=Ay';have ac:Hid (((Lk (some (c-22).toNat):Nat):Int)=c-22):=AhH;exact Ajd
 ·obtain rfl:none=o:=by rw[<-jq.out];unfold Fp;rw[V a0,V a1,V a2]
  clear jq;go_enter func297,ntmps297;go_wp2
  all_goals first
   | (exfalso;omega)
   | (go_ret2
      exact⟨rfl,rfl⟩)
def LG(o:Option Nat):Int:=match o with|none=>-1|some d=>d
def Ud(c:Int)(o:Option Nat)(w:World)(h:0<=c)(k:c<=255)(jq:Hid (Fp c=o)):Calls prog 186 #[.int .u8 c] w λe w'=>e=.returned (.int .i64 (LG o))/\w'=w:=by
 by_cases a0:97<=c/\c<=122
 ·obtain⟨eD,et⟩:=a0;obtain rfl:some (c-97).toNat=o:=Aw_;have ac:Hid (LG (some (c-97).toNat)=c-97):=AhI;exact Ajf
 by_cases a1:65<=c/\c<=90
 ·obtain⟨eD,et⟩:=a1;have b:¬97<=c:=O;obtain rfl:some (c-65).toNat=o:=Azh;have ac:Hid (LG (some (c-65).toNat)=c-65):=AhI;exact Ajf
 by_cases a2:48<=c/\c<=57
 ·obtain⟨eD,et⟩:=a2;have b:¬97<=c:=O;have m:¬65<=c:=O;obtain rfl:some (c-22).toNat=o:=Ay';have ac:Hid (LG (some (c-22).toNat)=c-22):=AhI;exact Ajf
 ·obtain rfl:none=o:=by rw[<-jq.out];unfold Fp;rw[V a0,V a1,V a2]
  clear jq;go_enter func186,ntmps186;go_wp2
  all_goals first
   | (exfalso;omega)
   | (go_ret
      exact⟨rfl,rfl⟩)
def TG(W f:Nat):Nat:=if 2147483647/f<W then 2147483648 else W*f
def ApN(W f V:Nat)(w:World)(A:1<=f)(h:f<=36)(k:W<=2147483648)(m:Hid (TG W f=V)):Calls prog 298 #[.int .i64 W,.int .i64 f] w λe w'=>e=.returned (.int .i64 V)/\w'=w:=by
 rw[<-m.out];unfold TG;obtain⟨q,b⟩:∃q,2147483647/f=q:=⟨_,rfl⟩;have C:(2147483647:Int).tdiv (f:Int)=(q:Int):=by rw[<-b];rfl
 have F:q<=2147483647:=by rw[<-b];exact Je _ _
 have s:W*f<=2147483648*36:=Oe k h;obtain⟨p,c⟩:∃p,W*f=p:=⟨_,rfl⟩;have G:(W:Int)*(f:Int)=(p:Int):=by rw[<-c,KS]
 rw[c]at s;rw[b,c];clear b c;by_cases L:q<W
 all_goals
  go_enter func298,ntmps298;exact I7
def OC(c:Int)(B:Bool)(w:World)(b:Hid (Cj c=B)):Calls prog 243 #[.int .i64 c] w λe w'=>e=.returned (.bool B)/\w'=w:=by
 rw[<-b.out];unfold Cj;go_enter func243,ntmps243;exact I7
def AdG(c:Int)(w:World)(h:BO c=false):Calls prog 74 #[.int .i64 c] w λe w'=>e=.returned (.int .i64 0)/\w'=w:=by
 have k:c<0\/1114111<c\/(55296<=c/\c<=57343):=by unfold BO at h;simp at h;omega
 clear h;rcases k with b|b|⟨b,m⟩
 ·exact U1
 ·have m:¬c<0:=by omega
  exact U1
 ·have q:¬c<0:=by omega
  have s:¬1114111<c:=O;exact U1
def AdH(c:Int)(w:World)(h:BO c=true):Calls prog 74 #[.int .i64 c] w λe w'=>(∃n:Nat,1<=n/\n<=4/\e=.returned (.int .i64 n))/\w'=w:=by
 have b:¬c<0/\¬1114111<c/\¬(55296<=c/\c<=57343):=by unfold BO at h;simp at h;omega
 obtain⟨k,m,q⟩:=b;clear h;go_enter func74,ntmps74;go_wp2
 all_goals first
  | (exfalso;omega)
  | (go_ret;exact⟨⟨1,O,O,rfl⟩,rfl⟩)
  | (go_ret;exact⟨⟨2,O,O,rfl⟩,rfl⟩)
  | (go_ret;exact⟨⟨3,O,O,rfl⟩,rfl⟩)
  | (go_ret;exact⟨⟨4,O,O,rfl⟩,rfl⟩)
def QQ(c:Int)(B:Bool)(w:World)(b:Hid (BO c=B)):Calls prog 44 #[.int .i64 c] w λe w'=>e=.returned (.bool B)/\w'=w:=by
 rw[<-b.out];unfold BO;go_enter func44,ntmps44;go_wp2
 all_goals
  go_ret;refine⟨ArH ?_,rfl⟩;rw[Gd];simp
  try omega
def AjX{d k:Nat}(h:¬455<d):Il d k=k+36*d/(d+38):=by rw[Il,dif_neg h]
def AjW{d k:Nat}(h:455<d):Il d k=Il (d/35) (k+36):=by rw[Il,dif_pos h]
def SD(d p:Nat)(f:Bool)(e:d<=1099511627776):Fi d p f<=2199023255588:=by
 unfold Fi;have b:(if f=true then d/700 else d/2)<=d:=by split<;>omega
 obtain⟨x,c⟩:∃x,(if f=true then d/700 else d/2)=x:=⟨_,rfl⟩;rw[c]at b|-;have:=Je x p;have:=AaO (x+x/p) 0;omega
def AjY(d p B:Nat)(f:Bool)(w:World)(m:d<=1099511627776)(q:1<=p)(s:p<=4096)(c:Hid (Fi d p f=B)):Calls prog 249 #[.int .i64 d,.int .i64 p,.bool f] w λe w'=>e=.returned (.int .i64 B)/\w'=w:=by
 obtain⟨x,b3⟩:∃x,(if f=true then d/700 else d/2)=x:=⟨_,rfl⟩;have A:x<=d:=by rw[<-b3];split<;>omega
 obtain⟨y,b⟩:∃y,x/p=y:=⟨_,rfl⟩;have C:y<=x:=by rw[<-b];exact Je _ _
 have b1:Hid (Il (x+y) 0=B):=by unfold Hid;rw[<-c.out,Fi,b3,b]
 have F:(x:Int).tdiv (p:Int)=(y:Int):=by rw[<-b];rfl
 clear b c;cases f
 ·simp at b3;have k:(d:Int).tdiv 2=(x:Int):=Zx;exact AzU
 ·simp at b3;have k:(d:Int).tdiv 700=(x:Int):=Zx;exact AzU
def Afr(d p B:Nat)(f:Bool)(w:World)(m:d<=1099511627776)(q:1<=p)(s:p<=4096)(c:Hid (Fi d p f=B)):Calls prog 122 #[.int .i64 d,.int .i64 p,.bool f] w λe w'=>e=.returned (.int .i64 B)/\w'=w:=by
 obtain⟨x,b3⟩:∃x,(if f=true then d/700 else d/2)=x:=⟨_,rfl⟩;have A:x<=d:=by rw[<-b3];split<;>omega
 obtain⟨y,b⟩:∃y,x/p=y:=⟨_,rfl⟩;have C:y<=x:=by rw[<-b];exact Je _ _
 have b1:Hid (Il (x+y) 0=B):=by unfold Hid;rw[<-c.out,Fi,b3,b]
 have F:(x:Int).tdiv (p:Int)=(y:Int):=by rw[<-b];rfl
 clear b c;cases f
 ·simp at b3;have k:(d:Int).tdiv 2=(x:Int):=Zx;exact AzV
 ·simp at b3;have k:(d:Int).tdiv 700=(x:Int):=Zx;exact AzV
def Agc(o:Option Nat):Nat:=match o with|none=>0|some m=>m
def Age(s:ByteArray)(b:Nat)(R:Option Nat)(w:World)(bc:s.size<=1099511627776)(ac:b<=70368744177664)(A:Hid (JB b 0 (Ap s)=R)):Calls prog 296 #[.string s,.int .i64 b] w λe w'=>e=.returned (.tuple #[.int .i64 (Agc R:Nat),.bool R.isSome])/\w'=w:=by
 go_enter func296,ntmps296;go_wp2;go_loopw[11] (λu wr=>∃k:Nat,u=.int .i64 k/\k<=s.size/\Hid (JB b k ((Ap s).drop k)=R)/\wr=w) (λu _=>s.size-(intOf u).toNat)
 case atStart=>exact⟨0,rfl,Au _,A,rfl⟩
 case round=>
  obtain⟨k,rfl,bd,q,rfl⟩:=hrel;by_cases a':k<s.size
  ·have h:=q.out;rw[XI s k a',JB]at h;obtain⟨c,ba⟩:∃c:Int,(s[k].toNat:Int)=c:=⟨_,rfl⟩;have F:0<=c:=O;have G:c<=255:=Ru;rw[ba]at h;cases m:Fp c with
   | none =>
    rw[m]at h;simp only at h;subst h;have C:=U m;clear m q A;go_wp2_with (go_at_call 297;refine(Qn c none _ F G C).mono ?_;rintro e w1 ⟨rfl,rfl⟩);exact N6
   | some d =>
    rw[m]at h;simp only at h;have C:=U m;have be:=Qm m;obtain⟨T,L⟩:∃T,BV b k=T:=⟨_,rfl⟩;rw[L]at h;have ad:=U L;clear m q L;by_cases am:d<T
    ·rw[N am]at h;subst h;clear A;go_wp2_with (first
      | (go_at_call 297;refine(Qn c (some d) _ F G C).mono ?_;rintro e w1 ⟨rfl,rfl⟩;simp only[Lk,PT])
      | (go_at_call 247;refine(Ri k b T _ O ac ad).mono ?_;rintro e w2 ⟨rfl,rfl⟩))
     exact N6
    ·rw[V am]at h;have bb:=U h;clear h;go_wp2_with (first
      | (go_at_call 297;refine(Qn c (some d) _ F G C).mono ?_;rintro e w1 ⟨rfl,rfl⟩;simp only[Lk,PT])
      | (go_at_call 247;refine(Ri k b T _ O ac ad).mono ?_;rintro e w2 ⟨rfl,rfl⟩))
     go_roundw
     case rel=>exact⟨k+1,An,O,bb,Dr⟩
     case measure=>simp[intOf];omega
  ·have a9:Hid (R=none):=by
    unfold Hid;rw[<-q.out,G0 (by rw[Be];omega)];rfl
   obtain rfl:=a9.out;clear a9 q A;exact Pt
def Afw(s:ByteArray)(b v m:Nat)(b9:Int)(w:World)(b':s.size<=1099511627776)(bs:b<=70368744177664)(bt:Hid (Jy b (Ap s)=(v,m,b9))):Calls prog 286 #[.string s,.int .i64 b] w λe w'=>e=.returned (.tuple #[.int .i64 v,.int .i64 m,.int .i64 b9])/\w'=w:=by
 have G:=bt.out;unfold Jy at G;cases L:Gb b 0 (Ap s) with
 | none =>
  rw[L]at G;simp only at G;injection G with am C;injection C with C a9;subst am;subst C;subst a9;have bv:Hid (JB b 0 (Ap s)=none):=by unfold Hid;rw[Uh,L]
  clear L bt;go_enter func286,ntmps286;go_wp2_with (go_at_call 296;refine(Age s b none _ b' bs bv).mono ?_;rintro e w1 ⟨rfl,rfl⟩);exact UX
 | some X =>
  obtain⟨D,r⟩:=X;rw[L]at G;simp only at G;obtain⟨cF,co,cI,ca⟩:=Rh b (Ap s) 0 D r L;rw[Be]at co;have bv:Hid (JB b 0 (Ap s)=some D.length):=by unfold Hid;rw[Uh,L];simp
  have cp:=U ca;have bl:=U G;clear L bt ca G;go_enter func286,ntmps286;go_wp2_with (go_at_call 296;refine(Age s b (some D.length) _ b' bs bv).mono ?_;rintro e w1 ⟨rfl,rfl⟩;simp only[Agc,PT]);go_loopw[4,5,8,21] (λcq sz cr u wr=>∃(k S W F A:Nat),sz=.int .i64 D.length/\u=.int .i64 k/\cq=.int .i64 F/\cr=.int .i64 A/\k<=D.length/\F<=2147483647/\1<=A/\A<=2147483648/\Hid (Ii b D k S W)/\Hid (MZ S W F A)/\wr=w1) (λ_ _ _ u _=>D.length-(intOf u).toNat)
  case atStart=>exact⟨0,0,1,0,1,rfl,rfl,rfl,rfl,Au _,O,O,O,Ii.start b D,⟨rfl,O,O⟩,Dr⟩
  case round=>
   obtain⟨k,S,W,F,A,rfl,rfl,rfl,rfl,cO,c2,c3,cs,ac,a',rfl⟩:=hrel;by_cases bx:k<D.length
   ·have ct:k<s.size:=by omega
    have ba:=cp.out k bx;rw[Kt s k ct]at ba;obtain⟨c,cu⟩:∃c:Int,(s[k].toNat:Int)=c:=⟨_,rfl⟩;have cb:0<=c:=O;have cc:c<=255:=Ru;obtain⟨d,b0⟩:∃d,D.getD k 0=d:=⟨_,rfl⟩;rw[cu,b0]at ba;have c4:=Qm ba;have cd:=U ba;have b1:=U (ac.out.le bx);have bb:=U (ac.out.step bx);rw[b0]at b1 bb;obtain⟨T,b2⟩:∃T,BV b k=T:=⟨_,rfl⟩;obtain⟨cv,cx⟩:=Ix b k;rw[b2]at bb cv cx;have cy:=U b2;obtain⟨f,ce⟩:∃f,36-T=f:=⟨_,rfl⟩;rw[ce]at bb;have cf:1<=f:=O;have cg:f<=36:=O;have ci:=U ac.out.pos;have c5:(36:Int)-(T:Int)=(f:Int):=O;obtain⟨R,b3⟩:∃R,2147483647-F=R:=⟨_,rfl⟩;obtain⟨q,bc⟩:∃q,R/A=q:=⟨_,rfl⟩;have c6:(2147483647:Int)-(F:Int)=(R:Int):=O;have c7:(R:Int).tdiv (A:Int)=(q:Int):=by rw[<-bc];rfl
    have c8:q<=R:=by rw[<-bc];exact Je _ _
    have b4:Hid (q<d->2147483647<S+d*W):=λh=>a'.out.over ci.out (by rw[b3,bc];exact h);have b5:Hid (¬q<d->MZ (S+d*W) (W*f) (F+d*A) (TG A f)/\F+d*A<=2147483647):=λh=>a'.out.next ci.out cf cg (by rw[b3,bc];exact h);clear b0 b2 ce b3 bc ba ac a';by_cases cj:q<d
    ·have cl:2147483647<DA b 0 D:=Ci (b4.out cj) b1.out;have bd:=bl.out;rw[N cl]at bd;injection bd with am C;injection C with C a9;subst am;subst C;subst a9;clear cl b5 b4 bl;go_wp2_with (go_at_call 297;refine(Qn c (some d) _ cb cc cd).mono ?_;rintro e w2 ⟨rfl,rfl⟩;simp only[Lk,PT]);exact UX
    ·obtain⟨ad,cm⟩:=b5.out cj;obtain⟨p,b6⟩:∃p,d*A=p:=⟨_,rfl⟩;have c9:(d:Int)*(A:Int)=(p:Int):=by rw[<-b6,KS]
     rw[b6]at ad cm;obtain⟨V,b7⟩:∃V,TG A f=V:=⟨_,rfl⟩;rw[b7]at ad;have be:=U b7;have cA:=U ad;have cB:1<=V:=by
      have cC:=ad.w;have c':=bb.out.pos;omega
     have cD:V<=2147483648:=by have cC:=ad.w;omega
     have da:¬((q:Int)<(d:Int)):=O;clear b6 b7 ad b5 b4 b1;go_wp2_with (first
      | (go_at_call 297;refine(Qn c (some d) _ cb cc cd).mono ?_;rintro e w2 ⟨rfl,rfl⟩;simp only[Lk,PT])
      | (go_at_call 247;refine(Ri k b T _ O bs cy).mono ?_;rintro e w3 ⟨rfl,rfl⟩)
      | (go_at_call 298;refine(ApN A f V _ cf cg cs be).mono ?_;rintro e db ⟨rfl,rfl⟩))
     go_roundw
     case rel=>exact⟨k+1,_,_,F+p,V,rfl,An,An,rfl,O,cm,cB,cD,bb,cA,Dr⟩
     case measure=>simp[intOf];omega
   ·obtain rfl:k=D.length:=by omega
    have be:Hid (S=DA b 0 D):=ac.out.done;have bd:=bl.out;have b8:=a'.out.sum;rw[V (by rw[<-be.out,<-b8];omega),<-be.out,<-b8]at bd;injection bd with am C;injection C with C a9;subst am;subst C;subst a9;clear b8 be ac a' bl;go_wp2;exact UX
def QZ(b a:Nat)(L:List Int):Nat × Nat × Bool:=match Gb b 0 L with
 | none=>(0,0,false)
 | some (D,_)=>(min (DA b 0 D) 2147483648,a+D.length,true)
def AgN:(Value.int .i64 2147483648:Value)=.int .i64 ((2147483648:Nat):Int):=rfl
def AuJ{y:Nat}(h:y<2147483648):Value.int .i64 (if(y:Int)<2147483648 then(y:Int)else 2147483648)=.int .i64 (y:Int):=by rw[N O]
def AuK{y:Nat}(h:¬y<2147483648):Value.int .i64 (if(y:Int)<2147483648 then(y:Int)else 2147483648)=.int .i64 ((2147483648:Nat):Int):=by rw[V O];rfl
def AsW(s:ByteArray)(a b:Nat)(w:World)(cj:s.size<=1099511627776)(bs:a<=s.size)(bt:b<=70368744177664)(ba:Hid (JB b 0 ((Ap s).drop a)=none)):Calls prog 134 #[.string s,.int .i64 a,.int .i64 b] w λe w'=>e=.returned (.tuple #[.int .i64 0,.int .i64 0,.bool false])/\w'=w:=by
 go_enter func134,ntmps134
 go_wp2
 go_loopw[1,9,10,11] (λC bv bx b0 wr=>∃(p j S W:Nat),C=.int .i64 p/\bv=.int .i64 S/\bx=.int .i64 W/\b0=.int .i64 j/\p=a+j/\p<=s.size/\S<=2147483648/\W<=2147483648/\Hid (JB b j ((Ap s).drop p)=none)/\wr=w) (λC _ _ _ _=>s.size-(intOf C).toNat)
 case atStart=>exact⟨a,0,0,1,rfl,rfl,rfl,rfl,rfl,bs,by omega,by omega,ba,rfl⟩
 case round=>
  clear ba
  obtain⟨p,j,S,W,rfl,rfl,rfl,rfl,bb,cl,cm,bc,F,rfl⟩:=hrel
  have b1:=Lib.hid bb
  have co:j<=s.size:=by omega
  clear bb
  by_cases b2:p<s.size
  ·have k:=F.out
   rw[XI s p b2,JB]at k
   obtain⟨c,b3⟩:∃c:Int,(s[p].toNat:Int)=c:=⟨_,rfl⟩
   have bd:0<=c:=by omega
   have be:c<=255:=by have:=s[p].toNat_lt;omega
   rw[b3]at k
   have cp:decide ((s.size:Int)<=(p:Int))=false:=decide_eq_false (by omega)
   have cq:decide (s.size<=p)=false:=decide_eq_false (by omega)
   cases m:Fp c with
   | none =>
    have G:=Lib.hid m
    clear m F k
    go_wp2_with (go_at_call 186;refine(Ud c none _ bd be G).mono ?_;rintro e w1 ⟨rfl,rfl⟩;simp only[LG])
    go_ret3
    exact⟨rfl,rfl⟩
   | some d =>
    rw[m]at k
    simp only at k
    have G:=Lib.hid m
    have cr:=Qm m
    obtain⟨T,L⟩:∃T,BV b j=T:=⟨_,rfl⟩
    obtain⟨b4,b5⟩:=Ix b j
    rw[L]at k b4 b5
    have b6:=Lib.hid L
    have b7:¬d<T:=by
     intro h
     rw[if_pos h]at k
     cases k
    rw[if_neg b7]at k
    have b8:=Lib.hid k
    have cs:decide ((d:Int)<(T:Int))=false:=decide_eq_false (by omega)
    have ct:decide ((d:Int)<0)=false:=decide_eq_false (by omega)
    clear m F L k
    obtain⟨f,b9⟩:∃f,36-T=f:=⟨_,rfl⟩
    have cu:(36:Int)-(T:Int)=(f:Int):=by omega
    have b':f<=36:=by omega
    obtain⟨x,ac⟩:∃x,d*W=x:=⟨_,rfl⟩
    have cv:(d:Int)*(W:Int)=(x:Int):=by rw[<-ac,Int.natCast_mul]
    have cx:x<=36*2147483648:=by rw[<-ac];exact Nat.mul_le_mul (by omega) bc
    obtain⟨y,ad⟩:∃y,W*f=y:=⟨_,rfl⟩
    have cy:(W:Int)*(f:Int)=(y:Int):=by rw[<-ad,Int.natCast_mul]
    have cA:y<=2147483648*36:=by rw[<-ad];exact Nat.mul_le_mul bc b'
    obtain⟨q,ca⟩:∃q,min 2147483648 (S+x)=q:=⟨_,rfl⟩
    obtain⟨A,cb⟩:∃A,min 2147483648 y=A:=⟨_,rfl⟩
    have cB:q<=2147483648:=by omega
    have cC:A<=2147483648:=by omega
    clear b9 ac ad
    have cc:(S+x<2147483648/\q=S+x)\/(¬S+x<2147483648/\q=2147483648):=by omega
    have cd:(y<2147483648/\A=y)\/(¬y<2147483648/\A=2147483648):=by omega
    rcases cc with⟨ce,am⟩|⟨ce,am⟩
    all_goals
     rcases cd with⟨a9,a'⟩|⟨a9,a'⟩
    all_goals
     have cf:=Lib.hid am
     have cg:=Lib.hid a'
     have bl:((S:Int)+(x:Int)<2147483648)↔(S+x<2147483648):=by omega
     have ci:decide ((S:Int)+(x:Int)<2147483648)=decide (S+x<2147483648):=by rw[decide_eq_decide];exact bl
     clear am a' ca cb bl ci
     go_wp2_with (first
      | (go_at_call 186;refine(Ud c (some d) _ bd be G).mono ?_;rintro e w1 ⟨rfl,rfl⟩;simp only[LG])
      | (go_at_call 182;refine(Q_ j b T _ (by omega) bt b6).mono ?_;rintro e w2 ⟨rfl,rfl⟩))
     go_roundw
     case rel=>exact⟨p+1,j+1,q,A,by go_num,(by obtain rfl:=cf.out;first|with_reducible exact AgN|with_reducible rfl|go_num),(by obtain rfl:=cg.out;first|with_reducible exact AgN|with_reducible exact AuJ a9|with_reducible exact AuK a9|with_reducible rfl),by go_num,by(have:=b1.out;omega),by omega,by omega,by omega,b8,by first|rfl|trivial⟩
     case measure=>simp[intOf];omega
  ·have cD:s.size<=p:=by omega
   go_wp2
   go_ret3
   exact⟨rfl,rfl⟩
def AsX(s:ByteArray)(a b:Nat)(D:List Nat)(r:List Int)(v:Nat)(w:World)(c5:s.size<=1099511627776)(c6:a<=s.size)(b8:b<=70368744177664)(bc:Gb b 0 ((Ap s).drop a)=some (D,r))(cr:Hid (min (DA b 0 D) 2147483648=v)):Calls prog 134 #[.string s,.int .i64 a,.int .i64 b] w λe w'=>e=.returned (.tuple #[.int .i64 v,.int .i64 ((a:Int)+D.length),.bool true])/\w'=w:=by
 obtain⟨cs,ct,cu,b9⟩:=Rh b _ 0 D r bc
 rw[List.length_drop,Be]at ct
 have cv:=Lib.hid b9
 have b':Hid (Io b 0 D):=(Yp b _ 0 D r bc).1
 clear b9 bc cu
 go_enter func134,ntmps134
 go_wp2
 go_loopw[1,9,10,11] (λcx cy cA bd wr=>∃(p j S W ad Wt:Nat),cx=.int .i64 p/\cy=.int .i64 S/\cA=.int .i64 W/\bd=.int .i64 j/\p=a+j/\j<D.length/\S<=2147483648/\W<=2147483648/\Hid (Ii b D j ad Wt)/\Hid (PZ ad Wt S W)/\Hid (Io b j (D.drop j))/\wr=w) (λ_ _ _ bd _=>D.length-(intOf bd).toNat)
 case atStart=>exact⟨a,0,0,1,0,1,rfl,rfl,rfl,rfl,rfl,cs,by omega,by omega,Ii.start b D,⟨by omega,by omega⟩,b',rfl⟩
 case round=>
  clear b'
  obtain⟨p,j,S,W,ad,Wt,rfl,rfl,rfl,rfl,be,am,c7,ca,bl,cb,cc,rfl⟩:=hrel
  have cd:=Lib.hid be
  have cB:p<s.size:=by omega
  have c8:j<=s.size:=by omega
  have L:=cv.out j am
  have ce:((Ap s).drop a).getD j 0=(s[p].toNat:Int):=by
   rw[<-Kt s p cB,be];simp[List.getD,List.getElem?_drop]
  rw[ce]at L
  obtain⟨c,cC⟩:∃c:Int,(s[p].toNat:Int)=c:=⟨_,rfl⟩
  have cf:0<=c:=by omega
  have cg:c<=255:=by have:=s[p].toNat_lt;omega
  obtain⟨d,a9⟩:∃d,D.getD j 0=d:=⟨_,rfl⟩
  rw[cC,a9]at L
  have cD:=Qm L
  have ci:=Lib.hid L
  have F:=Lib.hid (bl.out.step am)
  rw[a9]at F
  obtain⟨T,a'⟩:∃T,BV b j=T:=⟨_,rfl⟩
  obtain⟨cF,cI⟩:=Ix b j
  rw[a']at F cF cI
  have cj:=Lib.hid a'
  have m:=cc.out
  rw[List.drop_eq_getElem_cons am]at m
  have cl:D[j]=d:=by rw[<-a9];simp[List.getD,am]
  rw[cl,Io,a']at m
  have c9:decide ((s.size:Int)<=(p:Int))=false:=decide_eq_false (by omega)
  have c':decide (s.size<=p)=false:=decide_eq_false (by omega)
  have da:decide ((d:Int)<0)=false:=decide_eq_false (by omega)
  have cm:=bl.out.pos
  have bs:PZ (ad+d*Wt) (Wt*(36-T)) (min 2147483648 (S+d*W)) (min 2147483648 (W*(36-T))):=cb.out.next cm (by omega) cD
  clear be ce a9 a' cl L bl cb cc
  obtain⟨f,bt⟩:∃f,36-T=f:=⟨_,rfl⟩
  have db:(36:Int)-(T:Int)=(f:Int):=by omega
  have cO:f<=36:=by omega
  obtain⟨x,ba⟩:∃x,d*W=x:=⟨_,rfl⟩
  have dc:(d:Int)*(W:Int)=(x:Int):=by rw[<-ba,Int.natCast_mul]
  have df:x<=36*2147483648:=by rw[<-ba];exact Nat.mul_le_mul (by omega) ca
  obtain⟨y,bb⟩:∃y,W*f=y:=⟨_,rfl⟩
  have dj:(W:Int)*(f:Int)=(y:Int):=by rw[<-bb,Int.natCast_mul]
  have dk:y<=2147483648*36:=by rw[<-bb];exact Nat.mul_le_mul ca cO
  obtain⟨k,bv⟩:∃k,min 2147483648 (S+x)=k:=⟨_,rfl⟩
  obtain⟨q,bx⟩:∃q,min 2147483648 y=q:=⟨_,rfl⟩
  have dm:k<=2147483648:=by omega
  have dn:q<=2147483648:=by omega
  rw[bt,ba,bb,bv,bx]at bs
  rw[bt]at F
  have b0:=Lib.hid bs
  clear bt ba bb bs cm
  by_cases co:d<T
  ·rw[if_pos co]at m
   have b1:j+1=D.length:=by
    have:=congrArg List.length m
    rw[List.length_drop]at this
    simp at this
    omega
   have c2:Hid (k=v):=by
    unfold Hid
    rw[<-cr.out]
    have cp:=F.out
    rw[b1]at cp
    rw[b0.out.sum,<-cp.done]
   have c3:=Lib.hid b1
   clear m F b0 b1
   have b2:(S+x<2147483648/\k=S+x)\/(¬S+x<2147483648/\k=2147483648):=by omega
   have b3:(y<2147483648/\q=y)\/(¬y<2147483648/\q=2147483648):=by omega
   rcases b2 with⟨b4,A⟩|⟨b4,A⟩
   all_goals
    rcases b3 with⟨G,C⟩|⟨G,C⟩
   all_goals
    have b5:=Lib.hid A
    have b6:=Lib.hid C
    have ac:((S:Int)+(x:Int)<2147483648)↔(S+x<2147483648):=by omega
    have b7:decide ((S:Int)+(x:Int)<2147483648)=decide (S+x<2147483648):=by rw[decide_eq_decide];exact ac
    clear A C bv bx ac b7
    clear G b6
    go_wp2_with (first
     | (go_at_call 186;refine(Ud c (some d) _ cf cg ci).mono ?_;rintro e w1 ⟨rfl,rfl⟩;simp only[LG])
     | (go_at_call 182;refine(Q_ j b T _ (by omega) b8 cj).mono ?_;rintro e w2 ⟨rfl,rfl⟩))
    go_ret3
    exact⟨by rw[<-c2.out,b5.out,<-c3.out,show ((a:Int)+((j+1:Nat):Int))=(p:Int)+1 by have:=cd.out;omega];rfl,rfl⟩
  ·rw[if_neg co]at m
   have cq:Hid (Io b (j+1) (D.drop (j+1))):=m.2
   have c4:j+1<D.length:=by
    rcases Nat.lt_or_ge (j+1) D.length with h|h
    ·exact h
    ·have:=cq.out
     rw[List.drop_of_length_le h]at this
     exact this.elim
   have dq:decide ((d:Int)<(T:Int))=false:=decide_eq_false (by omega)
   clear m
   have b2:(S+x<2147483648/\k=S+x)\/(¬S+x<2147483648/\k=2147483648):=by omega
   have b3:(y<2147483648/\q=y)\/(¬y<2147483648/\q=2147483648):=by omega
   rcases b2 with⟨b4,A⟩|⟨b4,A⟩
   all_goals
    rcases b3 with⟨G,C⟩|⟨G,C⟩
   all_goals
    have b5:=Lib.hid A
    have b6:=Lib.hid C
    have ac:((S:Int)+(x:Int)<2147483648)↔(S+x<2147483648):=by omega
    have b7:decide ((S:Int)+(x:Int)<2147483648)=decide (S+x<2147483648):=by rw[decide_eq_decide];exact ac
    clear A C bv bx ac b7
    go_wp2_with (first
     | (go_at_call 186;refine(Ud c (some d) _ cf cg ci).mono ?_;rintro e w1 ⟨rfl,rfl⟩;simp only[LG])
     | (go_at_call 182;refine(Q_ j b T _ (by omega) b8 cj).mono ?_;rintro e w2 ⟨rfl,rfl⟩))
    go_roundw
    case rel=>exact⟨p+1,j+1,k,q,_,_,by go_num,(by obtain rfl:=b5.out;first|with_reducible exact AgN|with_reducible rfl|go_num),(by obtain rfl:=b6.out;first|with_reducible exact AgN|with_reducible exact AuJ G|with_reducible exact AuK G|with_reducible rfl),by go_num,by(have:=cd.out;omega),c4,by omega,by omega,F,b0,cq,by first|rfl|trivial⟩
    case measure=>simp[intOf];omega
def T_(s:ByteArray)(a b v m:Nat)(ok:Bool)(w:World)(C:s.size<=1099511627776)(F:a<=s.size)(G:b<=70368744177664)(L:Hid (QZ b a ((Ap s).drop a)=(v,m,ok))):Calls prog 134 #[.string s,.int .i64 a,.int .i64 b] w λe w'=>e=.returned (.tuple #[.int .i64 v,.int .i64 m,.bool ok])/\w'=w:=by
 have h:=L.out;unfold QZ at h;cases k:Gb b 0 ((Ap s).drop a) with
 | none =>
  rw[k]at h;injection h with q c;injection c with c A;subst q;subst c;subst A;exact AsW s a b w C F G (by unfold Hid;rw[Uh,k])
 | some X =>
  obtain⟨D,r⟩:=X;rw[k]at h;injection h with q c;injection c with c A;subst c;subst A;have:=AsX s a b D r v w C F G k q;rw[show ((a:Int)+(D.length:Int))=((a+D.length:Nat):Int) by omega]at this;exact this
end Go.Proofs.YtblcoicaeeiojaaGreatDoor
