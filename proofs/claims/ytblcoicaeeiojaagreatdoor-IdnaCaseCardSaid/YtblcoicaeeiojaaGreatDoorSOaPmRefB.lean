/- The contracts of the ref -/
import Derived.Test.YtblcoicaeeiojaaGreatDoorSOaPmUtfSpec2
import Derived.Test.YtblcoicaeeiojaaGreatDoorSOaHdC
import Derived.Deep.RegionWith
import Derived.Deep.DeepCutAuto
set_option linter.all false
set_option maxHeartbeats 4000000
set_option maxRecDepth 100000
open Go.Proofs.Tryz
namespace Go.Proofs.YtblcoicaeeiojaaGreatDoor
open Go.RowKit
def Atq(c:Int)(w:World):Calls prog 44 #[.int .i64 c] w λe w'=>e=.returned (.bool (!(Az c==0)))/\w=w':=by
 by_cases b:c<0
 ·exact Ajc
 by_cases h:1114111<c
 ·exact Ajc
 by_cases k:c<55296
 ·exact AAn
 by_cases m:57343<c
 ·exact AAn
 ·exact Ajc
def Ue(c: Int)(b: Bool)(w: World)(h: Hid ((!(Az c == 0)) = b)) :
  Calls prog 44 #[.int .i64 c] w λe w'=>e=.returned (.bool b)/\w=w':=h.out▸Atq c w
def Afz(c:Int)(w:World):Calls prog 71 #[.int .i64 c] w λe w'=>e=.returned (.int .i64 (Az c))/\w=w':=by
 by_cases h:Az c=0
 ·have b:Hid ((!(Az c==0))=false):=by simp[Hid,h]
  rw[h];clear h;go_enter func71,ntmps71;go_wp2_with (go_at_call 44;refine(Ue _ _ _ b).mono ?_;rintro e w' ⟨rfl,rfl⟩);exact RQ
 ·have b:Hid ((!(Az c==0))=true):=by simp[Hid,h]
  have k:Az c=if c<=127 then 1 else if c<=2047 then 2 else if c<=65535 then 3 else 4:=by unfold Az at *;omega
  rw[k];clear k h;go_enter func71,ntmps71;go_wp2_with (go_at_call 44;refine(Ue _ _ _ b).mono ?_;rintro e w' ⟨rfl,rfl⟩)
  all_goals
   exact RQ
def Ap'(c:Int)(w:World)(b:0<=c)(h:c<=127):Calls prog 45 #[.int .i64 c] w λe w'=>e=.returned (.string (strOfNums [c]))/\Below w.heap.size w w':=by
 have k:((Az c:Int)==1)=true:=GH;have m:(c)%256=c:=O;have eY:=Mc w #[.int .u8 (c)] [c] 1 rfl rfl;obtain⟨X,eE⟩:∃X,strOfNums [c]=X:=⟨_,rfl⟩;exact Zf
def Aqa(c:Int)(w:World)(b:128<=c)(h:c<=2047):Calls prog 45 #[.int .i64 c] w λe w'=>e=.returned (.string (strOfNums [192+c/64,128+c%64]))/\Below w.heap.size w w':=by
 have k:((Az c:Int)==1)=false:=GH;have m:((Az c:Int)==2)=true:=GH;have q:(192+c/64)%256=192+c/64:=O;have s:(128+c%64)%256=128+c%64:=O;have eY:=Mc w #[.int .u8 (192+c/64),.int .u8 (128+c%64)] [192+c/64,128+c%64] 2 rfl rfl;obtain⟨X,eE⟩:∃X,strOfNums [192+c/64,128+c%64]=X:=⟨_,rfl⟩;exact Zf
def Aqb(c:Int)(w:World)(h:2048<=c)(k:c<=65535)(b:¬(55296<=c/\c<=57343)):Calls prog 45 #[.int .i64 c] w λe w'=>e=.returned (.string (strOfNums [224+c/4096,128+c/64%64,128+c%64]))/\Below w.heap.size w w':=by
 have m:((Az c:Int)==1)=false:=GH;have q:((Az c:Int)==2)=false:=GH;have s:((Az c:Int)==3)=true:=GH;have A:(224+c/4096)%256=224+c/4096:=O;have C:(128+c/64%64)%256=128+c/64%64:=O;have F:(128+c%64)%256=128+c%64:=O;have eY:=Mc w #[.int .u8 (224+c/4096),.int .u8 (128+c/64%64),.int .u8 (128+c%64)] [224+c/4096,128+c/64%64,128+c%64] 3 rfl rfl;clear b;obtain⟨X,eE⟩:∃X,strOfNums [224+c/4096,128+c/64%64,128+c%64]=X:=⟨_,rfl⟩;exact Zf
def Aqc(c:Int)(w:World)(b:65536<=c)(h:c<=1114111):Calls prog 45 #[.int .i64 c] w λe w'=>e=.returned (.string (strOfNums [240+c/262144,128+c/4096%64,128+c/64%64,128+c%64]))/\Below w.heap.size w w':=by
 have k:((Az c:Int)==1)=false:=GH;have m:((Az c:Int)==2)=false:=GH;have q:((Az c:Int)==3)=false:=GH;have s:(240+c/262144)%256=240+c/262144:=O;have A:(128+c/4096%64)%256=128+c/4096%64:=O;have C:(128+c/64%64)%256=128+c/64%64:=O;have F:(128+c%64)%256=128+c%64:=O;have eY:=Mc w #[.int .u8 (240+c/262144),.int .u8 (128+c/4096%64),.int .u8 (128+c/64%64),.int .u8 (128+c%64)] [240+c/262144,128+c/4096%64,128+c/64%64,128+c%64] 4 rfl rfl;obtain⟨X,eE⟩:∃X,strOfNums [240+c/262144,128+c/4096%64,128+c/64%64,128+c%64]=X:=⟨_,rfl⟩;exact Zf
def Aey(c:Int)(w:World)(b:Az c≠0):Calls prog 45 #[.int .i64 c] w λe w'=>e=.returned (.string (strOfNums (Bq c)))/\Below w.heap.size w w':=by
 unfold Az at b;unfold Bq;split
 ·exact Ap' c w O O
 split
 ·exact Aqa c w O O
 split
 ·exact Aqb c w O O O
 ·exact Aqc c w O O
def AkA(xs b:List Int)(k:Nat)(c:k<xs.length)(e:k<b.length)(h:xs.take k=b.take k)(m:xs.getD k 0=b.getD k 0):xs.take (k+1)=b.take (k+1):=by
 rw[C4 xs k c,C4 b k e,h,m]
def Aef(xs b:List Int)(k:Nat)(c:xs.getD k 0≠b.getD k 0):(xs==b)=false:=by
 simp only[Sy,ne_eq];rintro rfl;exact c rfl
def Ath(p q:Option Addr)(c d:Nat)(xs cy:List Int)(w:World)(h:Aq w p xs)(m:Aq w q cy)(s:xs.length<=maxLen)(A:cy.length<=maxLen):Calls prog 64 #[.slice p xs.length c,.slice q cy.length d] w λe w'=>e=.returned (.bool (xs==cy))/\Below w.heap.size w w':=by
 unfold maxLen at s A;by_cases b:xs.length=cy.length
 ·have C:((xs.length:Int) !=(cy.length:Int))=false:=by simp[b]
  have F:=U h;have G:=U m;have cF:=U b;clear b h m;go_enter func64,ntmps64;go_wp2;go_loopw[13] (λi wr=>∃k:Nat,k<=xs.length/\i=.int .i64 k/\Hid (xs.take k=cy.take k)/\Below w.heap.size w wr) (λi _=>xs.length-(intOf i).toNat)
  case atStart=>exact⟨0,Au _,rfl,rfl,Al _ _⟩
  case round=>
   obtain⟨k,a9,rfl,ep,dN⟩:=hrel;by_cases ee:k<xs.length
   ·obtain⟨a',ba,rfl,L⟩:=(F.out.below dN) k ee;obtain⟨bb,bc,rfl,am⟩:=(G.out.below dN) k YN;have hP:k<cy.length:=YN;obtain⟨x,ki⟩:∃x,xs.getD k 0=x:=⟨_,rfl⟩;obtain⟨y,kh⟩:∃y,cy.getD k 0=y:=⟨_,rfl⟩;rw[ki]at L;rw[kh]at am;by_cases kj:x=y
    ·exact AzX
    ·have ad:(x !=y)=true:=by simp[kj]
     have c6:Hid ((xs==cy)=false):=Aef xs cy k (by rw[ki,kh];exact kj);exact AyR
   ·obtain rfl:k=xs.length:=by omega
    have c6:Hid ((xs==cy)=true):=by
     have:=ep.out;rw[PP,cF.out,PP]at this;simp[Hid,this]
    go_wp2;go_ret;exact ZU
 ·have C:((xs.length:Int) !=(cy.length:Int))=true:=by simp;omega
  have ac:Hid ((xs==cy)=false):=by
   simp only[Hid,Sy,ne_eq];rintro rfl;exact b rfl
  clear b h m;go_enter func64,ntmps64;go_wp2;go_ret;exact Ah8
def cN:Nat->List UInt8->Int
 | 0,l=>(l.getD 0 0).toNat
 | 1,l=>(((l.getD 0 0).toNat:Int)-192)*64+((l.getD 1 0).toNat:Int)-128
 | 2,l=>(((l.getD 0 0).toNat:Int)-224)*4096+(((l.getD 1 0).toNat:Int)-128)*64+((l.getD 2 0).toNat:Int)-128
 | _,l=>(((l.getD 0 0).toNat:Int)-240)*262144+(((l.getD 1 0).toNat:Int)-128)*4096+(((l.getD 2 0).toNat:Int)-128)*64+((l.getD 3 0).toNat:Int)-128
def AmU(l:List UInt8):(A1 l).2<=4:=by
 cases l with
 | nil=>simp[A1]
 | cons b r =>
  simp only[A1];have c:=b.toNat_lt;have:=Rc b.toNat O O;split
  ·exact J
  ·split
   ·exact J
   ·split<;>simp<;>omega
def AmW(l:List UInt8)(h:(A1 l).2=0):A1 l=(0,0):=by
 cases l with
 | nil=>simp[A1]
 | cons b r =>
  simp only[A1]at h|-;split
  ·rfl
  ·rename_i e;rw[V e]at h;split
   ·rfl
   ·rename_i c k;simp only[k]at h;split
    ·rename_i m;rw[N m]at h;simp at h;exact absurd (.inl h) e
    ·rfl
def AmX(l:List UInt8)(c:Int)(k:Nat)(b:Az c=((k+1:Nat):Int))(e:l.take (k+1)=D8 c):A1 l=(c,((k+1:Nat):Int)):=by
 have:=AcL c (l.drop (k+1)) O;rw[<-e,FG,b]at this;exact this
def Anl(l:List UInt8)(n j:Nat)(h:j<n):(l.take n).getD j 0=l.getD j 0:=by
 simp[Eu,h]
def Abs(l:List UInt8)(c:Int)(k:Nat)(h:A1 l=(c,((k+1:Nat):Int))):cN k l=c:=by
 obtain⟨s,C⟩:=Wf l c k h;have F:k=0\/k=1\/k=2\/k=3:=by have:=AdE c;omega
 have g:∀j,j<k+1->l.getD j 0=(D8 c).getD j 0:=λj G=>by rw[<-C,Anl _ _ _ G]
 rcases F with rfl|rfl|rfl|rfl
 ·have m:0<=c/\c<=127:=by unfold Az at s;omega
  have e:Bq c=[c]:=by simp[Bq,m.2]
  have b:=FB c O O;simp only[cN,g 0 O,D8,e,BH,Eg,DI,b]
 ·have m:127<c/\c<=2047:=by unfold Az at s;omega
  have e:Bq c=[192+c/64,128+c%64]:=by unfold Bq;rw[V O,N m.2]
  have b:=FB (192+c/64) O O;have q:=FB (128+c%64) O O;simp only[cN,g 0 O,g 1 O,D8,e,BH,Eg,DI,CS,b,q];omega
 ·have m:2047<c/\c<=65535:=by unfold Az at s;omega
  have e:Bq c=[224+c/4096,128+c/64%64,128+c%64]:=by unfold Bq;rw[V O,V O,N m.2]
  have b:=FB (224+c/4096) O O;have q:=FB (128+c/64%64) O O;have A:=FB (128+c%64) O O;simp only[cN,g 0 O,g 1 O,g 2 O,D8,e,BH,Eg,DI,CS,b,q,A];omega
 ·have m:65535<c/\c<=1114111:=by unfold Az at s;omega
  have e:Bq c=[240+c/262144,128+c/4096%64,128+c/64%64,128+c%64]:=Azz;have b:=FB (240+c/262144) O O;have q:=FB (128+c/4096%64) O O;have A:=FB (128+c/64%64) O O;have L:=FB (128+c%64) O O;simp only[cN,g 0 O,g 1 O,g 2 O,g 3 O,D8,e,BH,Eg,DI,CS,b,q,A,L];omega
def Mt(c z: Int)(w: World)(h: Hid (Az c = z)) :
  Calls prog 71 #[.int .i64 c] w λe w'=>e=.returned (.int .i64 z)/\w'=w:=h.out▸(Afz c w).mono λ_ _ ⟨a,b⟩=>⟨a,b.symm⟩
def TK(c: Int)(X: ByteArray)(w: World)(b: Hid (Az c ≠ 0))(h: Hid (strOfNums (Bq c) = X)) :
  Calls prog 45 #[.int .i64 c] w λe w'=>e=.returned (.string X)/\Below w.heap.size w w':=h.out▸Aey c w b.out
def J'(s:ByteArray)(j:Nat)(h:j<s.size):s.data.toList.getD j 0=s[j]:=by
 simp[List.getD,h];rfl
def Ih(l:List UInt8)(k:Nat):Prop:=∀j:Nat,1<=j->j<=k->(A1 l).2≠j
theorem Ih.done(l:List UInt8)(k:Nat)(h:Ih l k)(c:4<=k\/l.length<=k):A1 l=(0,0):=by
 apply AmW;have e:=Ni l;have m:=AmU l;by_cases b:(A1 l).2=0
 ·exact b
 ·exact absurd rfl (show ¬((A1 l).2=(A1 l).2)from λ_=>h (A1 l).2.toNat O O O)
theorem Ih.succ(l:List UInt8)(k:Nat)(h:Ih l k)(b:(A1 l).2≠((k+1:Nat):Int)):Ih l (k+1):=by
 intro j c m;by_cases e:j=k+1
 ·subst e;exact b
 ·exact h j c O
def AsH(s:ByteArray)(k:Nat)(_:k+1<=s.size)(h:Ih s.data.toList k):(Az (cN k s.data.toList)=((k+1:Nat):Int)/\(((strOfNums (Bq (cN k s.data.toList))).toList==(s.extract 0 (k+1)).toList)=true->A1 s.data.toList=(cN k s.data.toList,((k+1:Nat):Int)))/\(((strOfNums (Bq (cN k s.data.toList))).toList==(s.extract 0 (k+1)).toList)=false->Ih s.data.toList (k+1)))\/(Ih s.data.toList (k+1)/\(Az (cN k s.data.toList)==((k+1:Nat):Int))=false):=by
 have A:(s.extract 0 (k+1)).data.toList=s.data.toList.take (k+1):=by
  rw[RW,RV];simp
 have C:(strOfNums (Bq (cN k s.data.toList))).data.toList=D8 (cN k s.data.toList):=rfl;have q:((strOfNums (Bq (cN k s.data.toList))).toList==(s.extract 0 (k+1)).toList)=true↔D8 (cN k s.data.toList)=s.data.toList.take (k+1):=by
  rw[beq_iff_eq,KR,KR,A,C]
 by_cases c:Az (cN k s.data.toList)=((k+1:Nat):Int)
 ·refine .inl ⟨c,λe=>AmX _ _ k c (q.1 e).symm,λe=>h.succ _ _ λb=>?_⟩;have m:A1 s.data.toList=(cN k s.data.toList,((k+1:Nat):Int)):=L2 (Abs _ _ k (L2 rfl b)).symm b;obtain⟨_,F⟩:=Wf _ _ _ m;rw[q.2 F.symm]at e;cases e
 ·refine .inr ⟨h.succ _ _ λb=>c ?_,by rw[Sy];exact c⟩;have m:A1 s.data.toList=(cN k s.data.toList,((k+1:Nat):Int)):=L2 (Abs _ _ k (L2 rfl b)).symm b;exact(Wf _ _ _ m).1
def AmY(s:ByteArray)(w:World)(cp:s.size<=140737488351232):Calls prog 77 #[.string s] w λe w'=>e=.returned (.tuple #[.int .i64 (A1 s.data.toList).1,.int .i64 (A1 s.data.toList).2])/\Below w.heap.size w w':=by
 obtain⟨L,b5⟩:∃L,s.data.toList=L:=⟨_,rfl⟩;have bt:=U b5;rw[b5];clear b5;go_enter func77,ntmps77;go_wp2;go_loopw[4] (λn wr=>∃k:Nat,k<=4/\n=.int .i64 (k+1)/\Hid (Ih L k)/\Below w.heap.size w wr) (λn _=>5-(intOf n).toNat)
 case atStart=>exact⟨0,O,rfl,λj cq cr=>O,Al _ _⟩
 case round=>
  obtain⟨k,cs,rfl,b9,dN⟩:=hrel;have bv:=dN.size;by_cases b':k<4/\k<s.size
  ·obtain⟨ct,cu⟩:=b';have b6:=AsH s k O (bt.out▸b9.out);rw[bt.out]at b6;have H:=U b6;clear b6;have F:=U dN;clear dN;have cg:k=0\/k=1\/k=2\/k=3:=O;rcases cg with rfl|rfl|rfl|rfl
   ·
    obtain⟨h,bx⟩:∃b:Int,(s[0].toNat:Int)=b:=⟨_,rfl⟩;have am:0<=h/\h<=255:=YZ;obtain⟨am,u0⟩:=am;have a9:cN 0 L=h:=by rw[<-bt.out];simp only[cN,J' s 0 O,bx]
    have q:=U a9;clear a9;go_upto_region 12 with(fail);generalize h=c at q|-;have G:=H.out;rw[q.out]at G;clear H q;obtain⟨X,C⟩:∃X,strOfNums (Bq c)=X:=⟨_,rfl⟩;rw[C]at G;rcases G with⟨ac,a'⟩|⟨ba,ac⟩
    ·have ad:Hid (Az c=1):=by unfold Hid;omega
     have b0:Hid (Az c≠0):=Hj;have b1:=U C;have bs:=U a';clear a' ac C;go_region_with (first
      | (go_at_call 71;refine(Mt _ _ _ ad).mono ?_;rintro e w' ⟨rfl,rfl⟩)
      | (go_at_call 45;refine(TK _ _ _ b0 b1).mono ?_;rintro e w1 ⟨rfl,bb⟩))
     have hG:=U ((EO F.out _).trans (bb.mono bv));clear bb;go_wp2
     ·have dO:(X.toList==(s.extract 0 1).toList)=true:=by assumption
      exact YH
     ·have dO:(X.toList==(s.extract 0 1).toList)=false:=by assumption
      have b2:Hid (Ih L 1):=bs.out.2 dO;go_roundw
      case rel=>exact⟨1,O,NZ,b2,hG.out⟩
      case measure=>simp[intOf]
    ·have ad:Hid (Az c=Az c):=rfl;have b7:(Az c==1)=false:=ac;have q:=U ba;clear ba C;go_quiet ((go_at_call 71;exact Calls.quiet_of_same (Mt _ _ _ ad)));go_wp2;go_roundw
     case rel=>exact⟨1,O,NZ,q.out,EO F.out _⟩
     case measure=>simp[intOf]
   ·
    obtain⟨h,bx⟩:∃b:Int,(s[0].toNat:Int)=b:=⟨_,rfl⟩;have am:0<=h/\h<=255:=YZ;obtain⟨am,u0⟩:=am;obtain⟨m,b3⟩:∃b:Int,(s[1].toNat:Int)=b:=⟨_,rfl⟩;have bc:0<=m/\m<=255:=AhV;obtain⟨bc,u1⟩:=bc;have a9:cN 1 L=(h-192)*64+m-128:=by rw[<-bt.out];simp only[cN,J' s 0 O,bx,J' s 1 O,b3]
    have ca:IntKind.i64.wrap (h-192)=h-192:=AT _ O;have cb:IntKind.i64.wrap ((h-192)*64)=(h-192)*64:=AT _ O;have cc:IntKind.i64.wrap ((h-192)*64+m)=(h-192)*64+m:=AT _ O;have cd:IntKind.i64.wrap ((h-192)*64+m-128)=(h-192)*64+m-128:=AT _ O;have q:=U a9;clear a9;go_upto_region 9 with(fail);go_quiet (fail);generalize bd:World.drewN wr _=be;have F:Hid (Below w.heap.size w be):=bd▸EO F.out _;have bv:w.heap.size<=be.heap.size:=F.out.size;clear bd;go_upto_region 12 with(fail);generalize (h-192)*64+m-128=c at q|-;have G:=H.out;rw[q.out]at G;clear H q;obtain⟨X,C⟩:∃X,strOfNums (Bq c)=X:=⟨_,rfl⟩;rw[C]at G;rcases G with⟨ac,a'⟩|⟨ba,ac⟩
    ·have ad:Hid (Az c=2):=by unfold Hid;omega
     have b0:Hid (Az c≠0):=Hj;have b1:=U C;have bs:=U a';clear a' ac C;go_region_with (first
      | (go_at_call 71;refine(Mt _ _ _ ad).mono ?_;rintro e w' ⟨rfl,rfl⟩)
      | (go_at_call 45;refine(TK _ _ _ b0 b1).mono ?_;rintro e w1 ⟨rfl,bb⟩))
     have hG:=U ((EO F.out _).trans (bb.mono bv));clear bb;go_wp2
     ·have dO:(X.toList==(s.extract 0 2).toList)=true:=by assumption
      exact YH
     ·have dO:(X.toList==(s.extract 0 2).toList)=false:=by assumption
      have b2:Hid (Ih L 2):=bs.out.2 dO;go_roundw
      case rel=>exact⟨2,O,NZ,b2,hG.out⟩
      case measure=>simp[intOf]
    ·have ad:Hid (Az c=Az c):=rfl;have b7:(Az c==2)=false:=ac;have q:=U ba;clear ba C;go_quiet ((go_at_call 71;exact Calls.quiet_of_same (Mt _ _ _ ad)));go_wp2;go_roundw
     case rel=>exact⟨2,O,NZ,q.out,EO F.out _⟩
     case measure=>simp[intOf]
   ·
    obtain⟨h,bx⟩:∃b:Int,(s[0].toNat:Int)=b:=⟨_,rfl⟩;have am:0<=h/\h<=255:=YZ;obtain⟨am,u0⟩:=am;obtain⟨m,b3⟩:∃b:Int,(s[1].toNat:Int)=b:=⟨_,rfl⟩;have bc:0<=m/\m<=255:=AhV;obtain⟨bc,u1⟩:=bc;obtain⟨A,b8⟩:∃b:Int,(s[2].toNat:Int)=b:=⟨_,rfl⟩;have b4:0<=A/\A<=255:=by have:=s[2].toNat_lt;omega
    obtain⟨b4,u2⟩:=b4;have a9:cN 2 L=(h-224)*4096+(m-128)*64+A-128:=by rw[<-bt.out];simp only[cN,J' s 0 O,bx,J' s 1 O,b3,J' s 2 O,b8]
    have ca:IntKind.i64.wrap (h-224)=h-224:=AT _ O;have cb:IntKind.i64.wrap ((h-224)*4096)=(h-224)*4096:=AT _ O;have cc:IntKind.i64.wrap (m-128)=m-128:=AT _ O;have ci:IntKind.i64.wrap ((m-128)*64)=(m-128)*64:=AT _ O;have cj:IntKind.i64.wrap ((h-224)*4096+(m-128)*64)=(h-224)*4096+(m-128)*64:=AT _ O;have cl:IntKind.i64.wrap ((h-224)*4096+(m-128)*64+A)=(h-224)*4096+(m-128)*64+A:=AT _ O;have cd:IntKind.i64.wrap ((h-224)*4096+(m-128)*64+A-128)=(h-224)*4096+(m-128)*64+A-128:=AT _ O;have q:=U a9;clear a9;go_upto_region 11 with(fail);go_quiet (fail);generalize bd:World.drewN wr _=be;have F:Hid (Below w.heap.size w be):=bd▸EO F.out _;have bv:w.heap.size<=be.heap.size:=F.out.size;clear bd;go_upto_region 12 with(fail);generalize (h-224)*4096+(m-128)*64+A-128=c at q|-;have G:=H.out;rw[q.out]at G;clear H q;obtain⟨X,C⟩:∃X,strOfNums (Bq c)=X:=⟨_,rfl⟩;rw[C]at G;rcases G with⟨ac,a'⟩|⟨ba,ac⟩
    ·have ad:Hid (Az c=3):=by unfold Hid;omega
     have b0:Hid (Az c≠0):=Hj;have b1:=U C;have bs:=U a';clear a' ac C;go_region_with (first
      | (go_at_call 71;refine(Mt _ _ _ ad).mono ?_;rintro e w' ⟨rfl,rfl⟩)
      | (go_at_call 45;refine(TK _ _ _ b0 b1).mono ?_;rintro e w1 ⟨rfl,bb⟩))
     have hG:=U ((EO F.out _).trans (bb.mono bv));clear bb;go_wp2
     ·have dO:(X.toList==(s.extract 0 3).toList)=true:=by assumption
      exact YH
     ·have dO:(X.toList==(s.extract 0 3).toList)=false:=by assumption
      have b2:Hid (Ih L 3):=bs.out.2 dO;go_roundw
      case rel=>exact⟨3,O,NZ,b2,hG.out⟩
      case measure=>simp[intOf]
    ·have ad:Hid (Az c=Az c):=rfl;have b7:(Az c==3)=false:=ac;have q:=U ba;clear ba C;go_quiet ((go_at_call 71;exact Calls.quiet_of_same (Mt _ _ _ ad)));go_wp2;go_roundw
     case rel=>exact⟨3,O,NZ,q.out,EO F.out _⟩
     case measure=>simp[intOf]
   ·
    obtain⟨h,bx⟩:∃b:Int,(s[0].toNat:Int)=b:=⟨_,rfl⟩;have am:0<=h/\h<=255:=YZ;obtain⟨am,u0⟩:=am;obtain⟨m,b3⟩:∃b:Int,(s[1].toNat:Int)=b:=⟨_,rfl⟩;have bc:0<=m/\m<=255:=AhV;obtain⟨bc,u1⟩:=bc;obtain⟨A,b8⟩:∃b:Int,(s[2].toNat:Int)=b:=⟨_,rfl⟩;have b4:0<=A/\A<=255:=by have:=s[2].toNat_lt;omega
    obtain⟨b4,u2⟩:=b4;obtain⟨bl,cm⟩:∃b:Int,(s[3].toNat:Int)=b:=⟨_,rfl⟩;have ce:0<=bl/\bl<=255:=by have:=s[3].toNat_lt;omega
    obtain⟨ce,u3⟩:=ce;have a9:cN 3 L=(h-240)*262144+(m-128)*4096+(A-128)*64+bl-128:=by rw[<-bt.out];simp only[cN,J' s 0 O,bx,J' s 1 O,b3,J' s 2 O,b8,J' s 3 O,cm]
    have ca:IntKind.i64.wrap (h-240)=h-240:=AT _ O;have cb:IntKind.i64.wrap ((h-240)*262144)=(h-240)*262144:=AT _ O;have cc:IntKind.i64.wrap (m-128)=m-128:=AT _ O;have ci:IntKind.i64.wrap ((m-128)*4096)=(m-128)*4096:=AT _ O;have cj:IntKind.i64.wrap ((h-240)*262144+(m-128)*4096)=(h-240)*262144+(m-128)*4096:=AT _ O;have cl:IntKind.i64.wrap (A-128)=A-128:=AT _ O;have cv:IntKind.i64.wrap ((A-128)*64)=(A-128)*64:=AT _ O;have cx:IntKind.i64.wrap ((h-240)*262144+(m-128)*4096+(A-128)*64)=(h-240)*262144+(m-128)*4096+(A-128)*64:=AT _ O;have cy:IntKind.i64.wrap ((h-240)*262144+(m-128)*4096+(A-128)*64+bl)=(h-240)*262144+(m-128)*4096+(A-128)*64+bl:=AT _ O;have cd:IntKind.i64.wrap ((h-240)*262144+(m-128)*4096+(A-128)*64+bl-128)=(h-240)*262144+(m-128)*4096+(A-128)*64+bl-128:=AT _ O;have q:=U a9;clear a9;go_upto_region 5 with(fail);go_quiet (fail);generalize bd:World.drewN wr _=be;have F:Hid (Below w.heap.size w be):=bd▸EO F.out _;have bv:w.heap.size<=be.heap.size:=F.out.size;clear bd;go_upto_region 12 with(fail);generalize (h-240)*262144+(m-128)*4096+(A-128)*64+bl-128=c at q|-;have G:=H.out;rw[q.out]at G;clear H q;obtain⟨X,C⟩:∃X,strOfNums (Bq c)=X:=⟨_,rfl⟩;rw[C]at G;rcases G with⟨ac,a'⟩|⟨ba,ac⟩
    ·have ad:Hid (Az c=4):=by unfold Hid;omega
     have b0:Hid (Az c≠0):=Hj;have b1:=U C;have bs:=U a';clear a' ac C;go_region_with (first
      | (go_at_call 71;refine(Mt _ _ _ ad).mono ?_;rintro e w' ⟨rfl,rfl⟩)
      | (go_at_call 45;refine(TK _ _ _ b0 b1).mono ?_;rintro e w1 ⟨rfl,bb⟩))
     have hG:=U ((EO F.out _).trans (bb.mono bv));clear bb;go_wp2
     ·have dO:(X.toList==(s.extract 0 4).toList)=true:=by assumption
      exact YH
     ·have dO:(X.toList==(s.extract 0 4).toList)=false:=by assumption
      have b2:Hid (Ih L 4):=bs.out.2 dO;go_roundw
      case rel=>exact⟨4,O,NZ,b2,hG.out⟩
      case measure=>simp[intOf]
    ·have ad:Hid (Az c=Az c):=rfl;have b7:(Az c==4)=false:=ac;have q:=U ba;clear ba C;go_quiet ((go_at_call 71;exact Calls.quiet_of_same (Mt _ _ _ ad)));go_wp2;go_roundw
     case rel=>exact⟨4,O,NZ,q.out,EO F.out _⟩
     case measure=>simp[intOf]
  ·have co:4<=k\/s.size<=k:=by omega
   clear b';have cf:A1 L=(0,0):=b9.out.done _ _ (by rw[<-bt.out];exact co);have oI:=U cf;clear cf;by_cases cA:4<=k
   ·exact Aw2
   ·have cB:s.size<=k:=by omega
    exact Aw2
def AcE(p:Option Addr)(cap n:Nat)(ao:List Int)(b:ByteArray)(c:Int)(w:World)(h:Aq w p ao)(k:ao.length<=maxLen)(m:ao.length=n)(q:Hid (Cl ao=(b,c))):Calls prog 47 #[.slice p n cap] w λe w'=>e=.returned (.tuple #[.string b,.int .i64 c])/\Below w.heap.size w w':=by
 subst m;have:=Ami p cap ao w h k;rw[q.out]at this;exact this
def At6{a b:ByteArray}(h:a.data.toList=b.data.toList):a=b:=by
 cases a;cases b;congr 1;exact Array.toList_inj.1 h
def Aqe(c: Int)(X: ByteArray)(w: World)(b: Hid (Az c ≠ 0))(h: Hid (strOfNums (Bq c) = X)) :
  Calls prog 45 #[.int .i64 c] w λe w'=>e=.returned (.string X)/\Below w.heap.size w w':=h.out▸Aey c w b.out
def Yi(xs b:List Int):strOfNums xs++strOfNums b=strOfNums (xs++b):=by
 apply At6;rw[ByteArray.data_append,Array.toList_append,Va,Va,Va,FY]
def NK(p:Option Addr)(cap:Nat)(ao:List Int)(w:World)(q:Aq w p ao)(ad:ao.length<=maxLen):Calls prog 16 #[.slice p ao.length cap] w λe w'=>e=.returned (.tuple #[.string (Cl ao).1,.int .i64 (Cl ao).2])/\Below w.heap.size w w':=by
 unfold maxLen at ad;by_cases s:4096<ao.length
 ·have ac:Hid (Cl ao=(ByteArray.empty,7)):=by simp[Hid,Cl,s]
  clear q;go_enter func16,ntmps16;go_wp2;go_ret2;exact Ah8
 have am:=U q;clear q;go_enter func16,ntmps16;go_wp2;go_loopw[4,12] (λv i wr=>∃k:Nat,∃T:ByteArray,k<=ao.length/\i=.int .i64 k/\v=.string T/\Hid (GR (ao.take k)=true/\T=strOfNums (Bj (ao.take k)))/\T.size<=4*k/\Below w.heap.size w wr) (λ_ i _=>ao.length-(intOf i).toNat)
 case atStart=>exact⟨0,ByteArray.empty,Au _,rfl,rfl,⟨rfl,rfl⟩,J,Al _ _⟩
 case round=>
  obtain⟨k,T,be,rfl,rfl,A,bl,dN⟩:=hrel;by_cases G:k<ao.length
  ·obtain⟨b,ff,rfl,a9⟩:=(am.out.below dN) k G;obtain⟨x,C⟩:∃x,ao.getD k 0=x:=⟨_,rfl⟩;have h:=C4 ao k G;rw[C]at a9 h;by_cases c:Az x=0
   ·have F:Hid ((!(Az x==0))=false):=by simp[Hid,c]
    have ac:Hid (Cl ao=(ByteArray.empty,3)):=by
     have:GR ao=false:=by
      rw[<-FG (k+1) ao,h];simp[GR,c]
     rw[Hid,Cl,V s,this];rfl
    clear h C c;go_wp2_with (go_at_call 44;refine(Ue _ _ _ F).mono ?_;rintro e w1 ⟨rfl,rfl⟩);exact YR
   ·have F:Hid ((!(Az x==0))=true):=by simp[Hid,c]
    have a':=U c;obtain⟨X,m⟩:∃X,strOfNums (Bq x)=X:=⟨_,rfl⟩;have bs:X.size<=4:=by rw[<-m,Et];exact Acw x
    have L:(T++X).size<=4*(k+1):=AhB;have ba:=U L;have bb:Hid (GR (ao.take (k+1))=true/\T++X=strOfNums (Bj (ao.take (k+1)))):=by
     rw[h];refine⟨by simp[AaS,A.out.1,c],?_⟩;rw[A.out.2,<-m,Yi,AcP]
    have bc:=U m;clear h C c m L;go_wp2_with (first
     | (go_at_call 44;refine(Ue _ _ _ F).mono ?_;rintro e w1 ⟨rfl,rfl⟩)
     | (go_at_call 45;refine(Aqe _ X _ a' bc).mono ?_;rintro e w1 ⟨rfl,bd⟩))
    go_roundw
    case rel=>exact⟨k+1,T++X,O,An,rfl,bb,ba.out,dN.trans (bd.mono dN.size)⟩
    case measure=>simp[intOf];omega
  ·obtain rfl:k=ao.length:=by omega
   have ac:Hid (Cl ao=(T,0)):=by
    have:=A.out;rw[PP]at this;rw[Hid,Cl,V s,N this.1,this.2]
   go_wp2;exact YR
def AcM(s:ByteArray)(c z:Int)(w:World)(b:s.size<=140737488351232)(h:Hid (A1 s.data.toList=(c,z))):Calls prog 77 #[.string s] w λe w'=>e=.returned (.tuple #[.int .i64 c,.int .i64 z])/\Below w.heap.size w w':=by
 have:=AmY s w b;rw[h.out]at this;exact this
def AcH(s:ByteArray)(p:Nat):(s.extract p s.size).data.toList=s.data.toList.drop p:=by
 rw[RW,RV];exact AO J
def AaK(xs:List Int)(a:Int)(w:World)(e:Ending)(w':World):Prop:=
 ∃v,e=.returned (.tuple #[v,.int .i64 a])/\Ak w' w.heap.size v xs/\Below w.heap.size w w'
def Ar4(s:ByteArray)(w:World)(bl:s.size<=1099511627776):Calls prog 51 #[.string s] w (AaK (Bt s.data.toList).1 (Bt s.data.toList).2 w):=by
 obtain⟨L,h⟩:∃L,s.data.toList=L:=⟨_,rfl⟩;have C:L.length=s.size:=by rw[<-h];rfl
 have F:=U h;rw[h];have G:=U C;clear h C;obtain⟨a',dI,bb,bc,bd⟩:=Cp info3;go_enter func51,ntmps51;go_wp2;go_loopw[4,5] (λv i wr=>∃p:Nat,∃xs:List Int,p<=s.size/\i=.int .i64 p/\Hid ((Bt L).1=xs++(Bt (L.drop p)).1/\(Bt L).2=p+(Bt (L.drop p)).2)/\Ak wr w.heap.size v xs/\xs.length<=p/\Below w.heap.size w wr) (λ_ i _=>s.size-(intOf i).toNat)
 case atStart=>exact⟨0,[],Au _,rfl,DH,Ak.nil _ _,Au _,Al _ _⟩
 case round=>
  obtain⟨p,xs,bs,rfl,eN,cm,bt,dN⟩:=hrel;by_cases bv:p<s.size
  ·obtain⟨c,z,fk⟩:∃c z,A1 (L.drop p)=(c,z):=⟨_,_,rfl⟩;have q:=Ni (L.drop p);rw[fk]at q;simp only[GK,G.out]at q;obtain⟨bx,b0⟩:=q;have ad:(s.extract p s.size).size<=140737488351232:=Ae;have am:=U ad;clear ad;by_cases b:z=0
   ·have be:(z==0)=true:=by simp[b]
    have ac:Hid (Bt L=(xs,p)):=by
     have:=eN.out;rw[Nc (L.drop p) (by rw[fk];exact b)]at this;simp only[E_,E8]at this;exact L2 this.1 this.2
    rw[<-F.out,<-AcH]at fk;have A:=U fk;clear fk b;go_wp2_with (go_at_call 77;refine(AcM _ c z _ am.out A).mono ?_;rintro e w1 ⟨rfl,cC⟩);go_ret2;rw[ac.out];exact⟨_,rfl,cm.below cC,dN.trans (cC.mono dN.size)⟩
   ·have be:(z==0)=false:=by simp[b]
    obtain⟨m,rfl⟩:∃m:Nat,z=((m+1:Nat):Int):=⟨(z-1).toNat,O⟩;have ac:Hid ((Bt L).1=(xs++[c])++(Bt (L.drop (p+(m+1)))).1/\(Bt L).2=(p+(m+1))+(Bt (L.drop (p+(m+1)))).2):=Avu;rw[<-F.out,<-AcH]at fk;have A:=U fk;clear fk b;go_wp2_with (first
     | (go_at_call 77;refine(AcM _ c _ _ am.out A).mono ?_;rintro e w1 ⟨rfl,cC⟩)
     | (at_builtin;refine ID _ rfl _ _ 22 rfl w.heap.size 3 a' (.int .i64 0) 1 8 underlying22 dI bb bc bd rfl Aw _ _ _ rfl ((cm.below Pq).alloc _) ⟨_,0,none⟩ 1 1 [.int .i64 c] rfl rfl (IB _ _ _) ?c2 ?c3 ?c4 ?c5 ?_))
    case c2=>intro u a9;simp at a9;subst a9;rfl
    case c3=>unfold maxLen;omega
    case c4=>omega
    case c5=>have:=dN.size;have:=cC.size;simp;omega
    intro fa w2 kk fy _;exact AxW
  ·obtain rfl:p=s.size:=by omega
   have ac:Hid (Bt L=(xs,s.size)):=by
    have:=eN.out;rw[G0 (by rw[G.out];exact Ac _),Nc [] rfl]at this;simp only[E8,E_]at this;exact L2 this.1 this.2
   go_wp2;go_ret2;rw[ac.out];exact⟨_,rfl,cm,dN⟩
def AfA(s:ByteArray)(xs:List Int)(a:Nat)(w:World)(b:s.size<=1099511627776)(h:Hid (Bt s.data.toList=(xs,a))):Calls prog 51 #[.string s] w (AaK xs a w):=by
 have:=Ar4 s w b;rw[h.out]at this;exact this
def Afy(s:ByteArray)(w:World)(C:s.size<=140737488355328):Calls prog 25 #[.string s] w (AaL (FM s.data.toList) w):=by
 have h:s.data.toList.length=s.size:=rfl;by_cases F:4096<s.size
 ·have ac:Hid (FM s.data.toList=([],0,7)):=by rw[Hid,FM,N O]
  clear h;go_enter func25,ntmps25;exact AwJ
 have m:s.size<=1099511627776:=O;obtain⟨xs,a,b⟩:∃xs a,Bt s.data.toList=(xs,a):=⟨_,_,rfl⟩;have c:=Qi _ s.data.toList (Ac _);rw[b]at c;simp only at c;have q:=U b;by_cases G:a<s.size
 ·have ac:Hid (FM s.data.toList=([],(a:Int),9)):=by rw[Hid,FM,V O,b,N O]
  clear b h c;go_enter func25,ntmps25;go_wp2_with (go_at_call 51;refine(AfA s xs a _ m q).mono ?_;rintro e w1 ⟨v,rfl,A,k⟩);go_ret3;rw[ac.out];exact⟨_,rfl,Ak.nil _ _,k⟩
 ·have ac:Hid (FM s.data.toList=(xs,0,0)):=by rw[Hid,FM,V O,b,V MI]
  clear b h c;go_enter func25,ntmps25;go_wp2_with (go_at_call 51;refine(AfA s xs a _ m q).mono ?_;rintro e w1 ⟨v,rfl,A,k⟩);go_ret3;rw[ac.out];exact⟨_,rfl,A,k⟩
end Go.Proofs.YtblcoicaeeiojaaGreatDoor
