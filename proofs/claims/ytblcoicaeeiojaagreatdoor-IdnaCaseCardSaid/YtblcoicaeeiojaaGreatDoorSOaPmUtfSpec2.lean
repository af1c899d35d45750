/- Plain mathematics of UTF -/
import Derived.Test.YtblcoicaeeiojaaGreatDoorSOaPmOwn
import Derived.Test.YtblcoicaeeiojaaGreatDoorSOaPmPunSrt
import Derived.Test.YtblcoicaeeiojaaGreatDoorSOaHdB
import Derived.Test.YtblcoicaeeiojaaGreatDoorRows
set_option linter.all false
set_option maxHeartbeats 1000000
set_option maxRecDepth 100000
open Go.Proofs.Tryz
namespace Go.Proofs.YtblcoicaeeiojaaGreatDoor
def Az(c:Int):Int:=
 if c<0 then 0 else if 1114111<c then 0 else if 55296<=c/\c<=57343 then 0 else if c<=127 then 1 else if c<=2047 then 2 else if c<=65535 then 3 else 4
def AdE(c:Int):0<=Az c/\Az c<=4:=RC
def Er(b:Int):Int:=if b<128 then b else if b<192 then 0 else if b<224 then b-192 else if b<240 then b-224 else if b<248 then b-240 else 0
def BP(b:Int):Int:=if b<128 then 1 else if b<192 then 0 else if b<224 then 2 else if b<240 then 3 else if b<248 then 4 else 0
def Cd(c:Int):List UInt8->Option Int
 | []=>some c
 | b::r=>if 128<=(b.toNat:Int)/\(b.toNat:Int)<192 then Cd (c*64+((b.toNat:Int)-128)) r else none
theorem Ab5(x: UInt8): ∀ (l: List UInt8) (c: Int), Cd c (l ++ [x]) = match Cd c l with
  | none=>none
  | some d=>if 128<=(x.toNat:Int)/\(x.toNat:Int)<192 then some (d*64+((x.toNat:Int)-128))else none
 | [],c=>by simp[Cd]
 | b::r,c=>by
  simp only[CH,Cd];by_cases h:128<=(b.toNat:Int)/\(b.toNat:Int)<192
  ·simp only[N h];exact Ab5 x r _
  ·simp only[V h]
theorem Ab4(m:List UInt8):∀(l:List UInt8) (c:Int),Cd c l=none->Cd c (l++m)=none
 | [],c,h=>by simp[Cd]at h
 | b::r,c,h=>by
  simp only[CH,Cd]at *;by_cases e:128<=(b.toNat:Int)/\(b.toNat:Int)<192
  ·simp only[N e]at *;exact Ab4 m r _ h
  ·simp only[V e]
theorem Ab2:∀(l:List UInt8) (c d:Int),Cd c l=some d->0<=c->0<=d/\d<(c+1)*64^l.length
 | [],c,d,h,k=>by simp[Cd]at h;simp;omega
 | b::r,c,d,h,k=>by
  simp only[Cd]at h;by_cases e:128<=(b.toNat:Int)/\(b.toNat:Int)<192
  ·rw[N e]at h;have:=Ab2 r _ d h O;refine⟨this.1,Int.lt_of_lt_of_le this.2 ?_⟩;rw[BB,Int.pow_succ,Int.mul_comm (64^r.length) 64,<-Int.mul_assoc];exact Aaj O (Int.pow_nonneg O)
  ·rw[V e]at h;cases h
def AlD(l:List UInt8)(c d:Int)(h:Cd c l=some d)(b:0<=c)(k:c<=127)(e:l.length<=3):0<=d/\d<33554432:=by
 have:=Ab2 l c d h b;refine⟨this.1,Int.lt_of_lt_of_le this.2 ?_⟩
 match l.length,e with
 | 0,_=>omega
 | 1,_=>omega
 | 2,_=>omega
 | 3,_=>omega
def A1:List UInt8->Int × Int
 | []=>(0,0)
 | b::r =>
  if BP b.toNat=0\/(r.length:Int)+1<BP b.toNat then(0,0) else
  match Cd (Er b.toNat) (r.take (BP b.toNat-1).toNat) with
  | none=>(0,0)
  | some c=>if Az c=BP b.toNat then(c,BP b.toNat) else(0,0)
def Rc(b:Int)(c:0<=b)(e:b<=255):0<=Er b/\Er b<=127/\0<=BP b/\BP b<=4:=by unfold Er BP;omega
def Ni(l:List UInt8):0<=(A1 l).2/\(A1 l).2<=l.length:=by
 unfold A1;split
 ·exact J
 ·rename_i b r;have:=Rc b.toNat O (by have:=b.toNat_lt;omega);split
  ·exact Ae
  ·split
   ·exact Ae
   ·split<;>simp<;>omega
def Bq(c:Int):List Int:=
 if c<=127 then [c]else if c<=2047 then [192+c/64,128+c%64]else if c<=65535 then [224+c/4096,128+c/64%64,128+c%64]
 else [240+c/262144,128+c/4096%64,128+c/64%64,128+c%64]
def Acx(c:Int)(h:Az c≠0):((Bq c).length:Int)=Az c:=by
 unfold Bq Az at *;repeat' split
 all_goals simp_all
 all_goals omega
def Ke:Nat->List UInt8->List Int × Nat
 | 0,_=>([],0)
 | k+1,l =>
  if(A1 l).2=0 then([],0) else
  let r:=Ke k (l.drop (A1 l).2.toNat)
  ((A1 l).1::r.1,(A1 l).2.toNat+r.2)
def Bj(ao:List Int):List Int:=ao.flatMap Bq
def Acw(c:Int):(Bq c).length<=4:=by
 unfold Bq;repeat' split
 all_goals simp
def Oy(ao:List Int):(Bj ao).length<=4*ao.length:=by
 induction ao with
 | nil=>simp[Bj]
 | cons c r b =>
  have:=Acw c;simp only[Bj,JT,Bc,BB]at *;omega
def AcP(ao:List Int)(c:Int):Bj (ao++[c])=Bj ao++Bq c:=by simp[Bj]
def GR(ao:List Int):Bool:=ao.all λc=>!(Az c==0)
def AaS(ao:List Int)(c:Int):GR (ao++[c])=(GR ao && !(Az c==0)):=by simp[GR]
def Cl(ao:List Int):ByteArray × Int:=
 if 4096<ao.length then(ByteArray.empty,7)else if GR ao=true then(strOfNums (Bj ao),0) else(ByteArray.empty,3)
theorem Acj:∀(k j:Nat) (l:List UInt8),l.length<=k->l.length<=j->Ke k l=Ke j l
 | 0,0,l,_,_=>rfl
 | 0,j+1,l,h,_=>by
  obtain rfl:l=[]:=Bw O;simp[Ke,A1]
 | k+1,0,l,_,h=>by
  obtain rfl:l=[]:=Bw O;simp[Ke,A1]
 | k+1,j+1,l,h,c=>by
  unfold Ke;by_cases b:(A1 l).2=0
  ·simp[b]
  ·have e:=Ni l;rw[V b,V b,Acj k j _ Ae Ae]
def Bt(l:List UInt8):List Int × Nat:=Ke l.length l
def Nc(l:List UInt8)(h:(A1 l).2=0):Bt l=([],0):=by
 unfold Bt;cases l with
 | nil=>rfl
 | cons b r=>rw[BB,Ke,N h]
def Ql(l:List UInt8)(c:Int)(z:Nat)(h:A1 l=(c,((z+1:Nat):Int))):Bt l=(c::(Bt (l.drop (z+1))).1,z+1+(Bt (l.drop (z+1))).2):=by
 have e:=Ni l;rw[h]at e;simp only at e;unfold Bt;cases l with
 | nil=>rw[Gh]at e;omega
 | cons b r =>
  have k:(A1 (b::r)).2≠0:=by rw[h];simp only;omega
  rw[BB,Ke,V k,h];simp only[Ef];rw[Acj r.length _ _ J (Ac _)]
theorem Qi:∀(k:Nat) (l:List UInt8),l.length<=k->(Bt l).2<=l.length/\(Bt l).1.length<=(Bt l).2
 | k,l,b=>by
  by_cases c:(A1 l).2=0
  ·rw[Nc l c];simp
  ·have h:=Ni l;obtain⟨z,e⟩:∃z:Nat,(A1 l).2=((z+1:Nat):Int):=⟨(A1 l).2.toNat-1,O⟩;rw[Ql l _ z (L2 rfl e)]
   match k,b with
   | 0,b=>omega
   | k+1,b =>
    have:=Qi k (l.drop (z+1)) Ae;simp only[GK,BB]at *;omega
def Pj(n:Int)(b:0<=n)(c:n<2^63):IntKind.i64.wrap n=n:=by rw[IntKind.wrap_i64];omega
def AnC(x:Int)(b:0<=x)(c:x<2^63):bits .and .i64 x 63=x%64:=bits_mask .i64 63 Aw Pj 6 Aw x b c
def AnD(y:Int)(b:0<=y)(c:y<128):bits .or .i64 128 y=128+y:=
 bits_join .i64 63 Aw Pj 7 128 y Aw Aw Aw b c O
def AnE(y:Int)(b:0<=y)(c:y<64):bits .or .i64 192 y=192+y:=
 bits_join .i64 63 Aw Pj 6 192 y Aw Aw Aw b c O
def AnF(y:Int)(b:0<=y)(c:y<32):bits .or .i64 224 y=224+y:=
 bits_join .i64 63 Aw Pj 5 224 y Aw Aw Aw b c O
def AnG(y:Int)(b:0<=y)(c:y<16):bits .or .i64 240 y=240+y:=
 bits_join .i64 63 Aw Pj 4 240 y Aw Aw Aw b c O
def AnH(x y:Int)(c:0<=x)(e:x%64=0)(h:x<2^62)(b:0<=y)(k:y<64):bits .or .i64 x y=x+y:=
 bits_join .i64 63 Aw Pj 6 x y O O O b O O
end Go.Proofs.YtblcoicaeeiojaaGreatDoor
namespace Go.Proofs.YtblcoicaeeiojaaGreatDoor
open Go.RowKit
def SY{w:World}{B:Nat}{v:Value}{xs:List Int}{n:Nat}(h:w.ownsRow B 5 1 v n (xs.map (.int .u8))):(convert 47 9 v).run prog w=.ok (.string (strOfNums xs)) w:=by
 obtain⟨b,m⟩:=h;rcases m with⟨rfl,q⟩|⟨g,cap,c,rfl,C,s,F,G,L,ep⟩
 ·subst q;have:xs=[]:=Bw (by simpa using b);subst this;exact run_convert_bytes_nil w _ _ underlying47 underlying5 _ _ _ underlying9
 ·have A:xs.length=n:=by simpa using b
  refine Aag w _ _ underlying47 underlying5 g 0 n cap xs A ?_ _ underlying9;intro k ac;rw[Es w g (0+k) c _ (0,0) s,BY];have e:(c.toList.take (n*1))[k]? = (xs.map (Value.int .u8))[k]? := N4;rw[Eu,N O]at e;exact Axk
def Mc(w:World)(b:Array Value)(xs:List Int)(n:Nat)(c:xs.length=n)(h:b.toList=xs.map (.int .u8)):(convert 47 9 (.slice (some ⟨w.heap.size,0,none⟩) n n)).run prog (w.alloc (.cells b 5))=.ok (.string (strOfNums xs)) (w.alloc (.cells b 5)):=by
 refine Aag _ _ _ underlying47 underlying5 w.heap.size 0 n n xs c ?_ _ underlying9;intro i dI;rw[BY,Cy,<-Px,h];simp[show i<xs.length by omega]
def Af6(s:ByteArray):strOfNums (Ap s)=s:=by
 apply Pz;apply Array.ext';exact AvQ
def Agd(S:ByteArray)(h:¬S.size=0):(S.toList==[])=false:=by
 rw[KR];exact AvM
def AtJ(S:ByteArray)(h:S.size=0):(S.toList==[])=true:=by
 rw[KR];have:S.data.toList=[]:=Bw h;rw[this];rfl
end Go.Proofs.YtblcoicaeeiojaaGreatDoor
namespace Go.Proofs.YtblcoicaeeiojaaGreatDoor
def D8(c:Int):List UInt8:=(Bq c).map λn=>UInt8.ofNat n.toNat
def Ki(ao:List Int):List UInt8:=ao.flatMap D8
def Agt(ao:List Int):(strOfNums (Bj ao)).data.toList=Ki ao:=by
 rw[Va,Bj,Ki,List.map_flatMap];rfl
def FB(n:Int)(b:0<=n)(c:n<=255):((UInt8.ofNat n.toNat).toNat:Int)=n:=by
 rw[Aay];omega
def AcL(c:Int)(r:List UInt8)(h:Az c≠0):A1 (D8 c++r)=(c,Az c):=by
 have ad:=Acx c h;unfold Az at h;by_cases C:c<=127
 ·have e:Bq c=[c]:=by simp[Bq,C]
  have b:Az c=1:=RC;have t:=FB c O O;simp only[D8,e,BH,Eg,CH,Cv,A1,t];have k:BP c=1:=UN;have m:Er c=c:=Zs;rw[k,m,V O];simp[Cd,b]
 by_cases F:c<=2047
 ·have e:Bq c=[192+c/64,128+c%64]:=by simp[Bq,C,F]
  have b:Az c=2:=RC;have q:=FB (192+c/64) O O;have s:=FB (128+c%64) O O;simp only[D8,e,BH,Eg,CH,Cv,A1,q];have k:BP (192+c/64)=2:=UN;have m:Er (192+c/64)=c/64:=Zs;rw[k,m,V Ae];have A:c/64*64+(128+c%64-128)=c:=O;simp only[show ((2:Int)-1).toNat=1 by decide,Jd,L0,Cd,s];rw[N O,A];simp only[b,if_true]
 by_cases L:c<=65535
 ·have e:Bq c=[224+c/4096,128+c/64%64,128+c%64]:=by simp[Bq,C,F,L]
  have b:Az c=3:=RC;have q:=FB (224+c/4096) O O;have s:=FB (128+c/64%64) O O;have G:=FB (128+c%64) O O;simp only[D8,e,BH,Eg,CH,Cv,A1,q];have k:BP (224+c/4096)=3:=UN;have m:Er (224+c/4096)=c/4096:=Zs;rw[k,m,V Ae];have A:(c/4096*64+(128+c/64%64-128))*64+(128+c%64-128)=c:=O;simp only[show ((3:Int)-1).toNat=2 by decide,Jd,L0,Cd,s,G];rw[N O,N O,A];simp only[b,if_true]
 ·have e:Bq c=[240+c/262144,128+c/4096%64,128+c/64%64,128+c%64]:=by simp[Bq,C,F,L]
  have b:Az c=4:=RC;have q:=FB (240+c/262144) O O;have s:=FB (128+c/4096%64) O O;have G:=FB (128+c/64%64) O O;have ac:=FB (128+c%64) O O;simp only[D8,e,BH,Eg,CH,Cv,A1,q];have k:BP (240+c/262144)=4:=UN;have m:Er (240+c/262144)=c/262144:=Zs;rw[k,m,V Ae];have A:((c/262144*64+(128+c/4096%64-128))*64+(128+c/64%64-128))*64+(128+c%64-128)=c:=O;simp only[show ((4:Int)-1).toNat=3 by decide,Jd,L0,Cd,s,G,ac];rw[N O,N O,N O,A];simp only[b,if_true]
def Ou{c d:Int}{b:UInt8}{r:List UInt8}(h:Cd c (b::r)=some d):128<=(b.toNat:Int)/\(b.toNat:Int)<192/\Cd (c*64+((b.toNat:Int)-128)) r=some d:=by
 simp only[Cd]at h;by_cases e:128<=(b.toNat:Int)/\(b.toNat:Int)<192
 ·rw[N e]at h;exact⟨e.1,e.2,h⟩
 ·rw[V e]at h;cases h
def Kp(b:UInt8)(n:Int)(h:n=b.toNat):UInt8.ofNat n.toNat=b:=by
 subst h;simp
def Ot{l:List UInt8}(h:0<l.length):∃b r,l=b::r:=by
 cases l with
 | nil=>simp at h
 | cons b r=>exact⟨b,r,rfl⟩
def Wf(l:List UInt8)(c:Int)(z:Nat)(h:A1 l=(c,((z+1:Nat):Int))):Az c=((z+1:Nat):Int)/\l.take (z+1)=D8 c:=by
 cases l with
 | nil=>simp[A1]at h;omega
 | cons b r =>
  have L:=b.toNat_lt;simp only[A1]at h;by_cases C:BP b.toNat=0\/(r.length:Int)+1<BP b.toNat
  ·rw[N C]at h;simp at h;omega
  rw[V C]at h;split at h
  ·simp at h;omega
  rename_i d k;by_cases cl:Az d=BP b.toNat
  ·rw[N cl]at h;simp only[DY]at h;obtain⟨rfl,F⟩:=h;refine⟨by rw[cl,F],?_⟩;rw[Jd];rw[F]at k cl C;have am:((z+1:Nat):Int)-1=z:=O;rw[am,Ef]at k;have q:z+1=1\/z+1=2\/z+1=3\/z+1=4:=by unfold BP at F;omega
   have o4:z<=r.length:=O;rcases q with q|q|q|q
   ·obtain rfl:z=0:=by omega
    simp only[L0,Cd,FI]at k;have m:d<=127:=Y_;have e:Bq d=[d]:=by simp[Bq,m]
    have L:d=b.toNat:=by rw[<-k];unfold Er BP at *;omega
    simp[D8,e,Kp b d L]
   ·obtain rfl:z=1:=by omega
    obtain⟨s,r,rfl⟩:=Ot (l:=r) O
    ·skip
     simp only[Jd,L0]at k|-;obtain⟨ac,ad,k⟩:=Ou k;simp only[Cd,FI]at k;have m:127<d/\d<=2047:=Y_;have e:Bq d=[192+d/64,128+d%64]:=by unfold Bq;rw[V O,N m.2]
     have A:Er b.toNat=b.toNat-192:=AhW;rw[A]at k;simp only[D8,e,BH,Eg];rw[Kp b _ O,Kp s _ O]
   ·obtain rfl:z=2:=by omega
    obtain⟨s,r,rfl⟩:=Ot (l:=r) O;obtain⟨G,r,rfl⟩:=Ot (l:=r) Aij
    ·skip
     simp only[Jd,L0]at k|-;obtain⟨ac,ad,k⟩:=Ou k;obtain⟨a9,a',k⟩:=Ou k;simp only[Cd,FI]at k;have m:2047<d/\d<=65535:=Y_;have e:Bq d=[224+d/4096,128+d/64%64,128+d%64]:=by unfold Bq;rw[V O,V O,N m.2]
     have A:Er b.toNat=b.toNat-224:=AhW;rw[A]at k;simp only[D8,e,BH,Eg];rw[Kp b _ O,Kp s _ O,Kp G _ O]
   ·obtain rfl:z=3:=by omega
    obtain⟨s,r,rfl⟩:=Ot (l:=r) O;obtain⟨G,r,rfl⟩:=Ot (l:=r) Aij;obtain⟨ba,r,rfl⟩:=Ot (l:=r) Aij
    ·skip
     simp only[Jd,L0]at k|-;obtain⟨ac,ad,k⟩:=Ou k;obtain⟨a9,a',k⟩:=Ou k;obtain⟨bb,bc,k⟩:=Ou k;simp only[Cd,FI]at k;have m:65535<d:=Y_;have e:Bq d=[240+d/262144,128+d/4096%64,128+d/64%64,128+d%64]:=Azz;have A:Er b.toNat=b.toNat-240:=AhW;rw[A]at k;simp only[D8,e,BH,Eg];rw[Kp b _ O,Kp s _ O,Kp G _ O,Kp ba _ O]
  ·rw[V cl]at h;simp at h;omega
def AlV(c:Int)(r:List UInt8)(h:Az c≠0):Bt (D8 c++r)=(c::(Bt r).1,(D8 c).length+(Bt r).2):=by
 have m:=AdE c;obtain⟨z,e⟩:∃z:Nat,Az c=((z+1:Nat):Int):=⟨(Az c).toNat-1,O⟩;have k:(D8 c).length=z+1:=by
  have:=Acx c h;unfold D8;rw[C6];omega
 have b:=AcL c r h;rw[e]at b;rw[Ql _ c z b,<-k,List.drop_left]
theorem Acn(r:List UInt8):∀(ao:List Int),GR ao=true->Bt (Ki ao++r)=(ao++(Bt r).1,(Ki ao).length+(Bt r).2)
 | [],_=>by simp[Ki]
 | c::ao,h=>by
  simp only[GR,DQ,AJ,N7,Sy]at h;have e:Ki (c::ao)++r=D8 c++(Ki ao++r):=by simp[Ki]
  rw[e,AlV c _ h.1,Acn r ao h.2];simp[Ki];omega
end Go.Proofs.YtblcoicaeeiojaaGreatDoor
namespace Go.Proofs.YtblcoicaeeiojaaGreatDoor
open Go.RowKit
def OF(c:Int)(w:World):Calls prog 74 #[.int .i64 c] w λe w'=>e=.returned (.int .i64 (Az c))/\w=w':=by
 unfold Az;by_cases b:c<0
 ·exact U1
 by_cases h:1114111<c
 ·exact U1
 go_enter func74,ntmps74;go_wp2
 all_goals
  exact RQ
def Ada(b:Int)(w:World)(c:128<=b)(h:b<192):Calls prog 219 #[.int .u8 b] w λe w'=>e=.returned (.bool true)/\w=w':=by
 go_enter func219,ntmps219;exact I7
def Ac'(b:Int)(w:World)(c:b<128\/192<=b):Calls prog 219 #[.int .u8 b] w λe w'=>e=.returned (.bool false)/\w=w':=by
 by_cases h:b<128
 ·go_enter func219,ntmps219;exact I7
 ·have k:192<=b:=by omega
  clear c;go_enter func219,ntmps219;go_wp2;go_ret;exact⟨Ae,rfl⟩
def Agk(b:Int)(w:World)(k:0<=b)(m:b<=255):Calls prog 218 #[.int .u8 b] w λe w'=>e=.returned (.tuple #[.int .i64 (Er b),.int .i64 (BP b)])/\w=w':=by
 unfold Er BP;by_cases c:128<=b/\b<192
 ·obtain⟨h,q⟩:=c;go_enter func218,ntmps218;go_wp2_with (go_at_call 219;refine(Ada _ _ Pq Pq).mono ?_;rintro e w' ⟨rfl,rfl⟩);exact N6
 ·have h:b<128\/192<=b:=by omega
  clear c;go_enter func218,ntmps218;go_wp2_with (go_at_call 219;refine(Ac' _ _ Pq).mono ?_;rintro e w' ⟨rfl,rfl⟩)
  all_goals
   exact N6
def Wm(c:Int)(w:World)(b:0<=c)(h:c<=1114111):Calls prog 119 #[.int .i64 c] w λe w'=>e=.returned (.int .u8 (128+c%64))/\w=w':=by
 have k:=AnC c b O;have m:=AnD (c%64) O O;have q:IntKind.u8.wrap (128+c%64)=128+c%64:=LR;go_enter func119,ntmps119;exact I7
def infu5:(prog.info? 5).map (λi=>(i.zero,i.size,i.bytes))=some (some (.int .u8 0),1,1):=Ax
def PX(B:Nat)(n:Nat)(xs:List Value)(b:List Int)(w:World)(e:Ending)(w':World):Prop:=
 ∃c,e=.returned c/\w'.ownsRow B 5 1 c (n+b.length) (xs++b.map (.int .u8))/\Below B w w'
def Aka(B:Nat)(v:Value)(n:Nat)(xs:List Value)(c:Int)(w:World)(ef:B<=w.heap.size)(cm:w.ownsRow B 5 1 v n xs)(A:n<=1099511627776)(C:0<=c)(F:c<=127):Calls prog 75 #[v,.int .i64 c] w (PX B n xs [c] w):=by
 have G:((Az c:Int)==1)=true:=GH;obtain⟨h,dI,m,q,s⟩:=Cp infu5;have L:IntKind.u8.wrap c=c:=LR;go_enter func75,ntmps75;go_wp2_with (first
  | (go_at_call 74;refine(OF _ _).mono ?_;rintro e w' ⟨rfl,rfl⟩)
  | (at_builtin;refine ID _ rfl _ _ 47 rfl B 5 h (.int .u8 0) 1 1 underlying47 dI m q s rfl Aw _ _ _ rfl (cm.alloc _) ⟨w.heap.size,0,none⟩ 1 1 [.int .u8 c] rfl rfl ?c1 ?c2 ?c3 ?c4 ?c5 ?_))
 case c1=>exact IB _ _ _
 case c2=>intro u b;simp at b;subst b;rfl
 case c3=>unfold maxLen;omega
 case c4=>omega
 case c5=>simp;omega
 exact ZF
def VP(w:World)(b:Array Value)(t:TypeId)(l:List Value)(h:b.toList=l):∀j u,l[j]? = some u->(w.alloc (.cells b t)).cell? ((⟨w.heap.size,0,none⟩:Addr).add j)=some u:=by
 intro j u c;subst h;rw[GI,Cy];simpa using c
def Akb(B:Nat)(v:Value)(n:Nat)(xs:List Value)(c:Int)(w:World)(ef:B<=w.heap.size)(cm:w.ownsRow B 5 1 v n xs)(A:n<=1099511627776)(C:128<=c)(F:c<=2047):Calls prog 75 #[v,.int .i64 c] w (PX B n xs [192+c/64,128+c%64] w):=by
 have G:((Az c:Int)==1)=false:=GH;have L:((Az c:Int)==2)=true:=GH;obtain⟨h,dI,m,q,s⟩:=Cp infu5;have ac:bits .or .i64 192 (c/64)=192+c/64:=AnE _ O O;have ad:(192+c/64)%256=192+c/64:=O;go_enter func75,ntmps75;go_wp2_with (first
  | (go_at_call 74;refine(OF _ _).mono ?_;rintro e w' ⟨rfl,rfl⟩)
  | (go_at_call 119;refine(Wm _ _ O O).mono ?_;rintro e w' ⟨rfl,rfl⟩)
  | (at_builtin;refine ID _ rfl _ _ 47 rfl B 5 h (.int .u8 0) 1 1 underlying47 dI m q s rfl Aw _ _ _ rfl (cm.alloc _) ⟨w.heap.size,0,none⟩ 2 2 [.int .u8 (192+c/64),.int .u8 (128+c%64)] rfl rfl ?c1 ?c2 ?c3 ?c4 ?c5 ?_))
 case c1=>exact VP _ _ _ _ rfl
 case c2=>intro u b;simp at b;rcases b with rfl|rfl<;>rfl
 case c3=>unfold maxLen;omega
 case c4=>omega
 case c5=>simp;omega
 exact ZF
def Akc(B:Nat)(v:Value)(n:Nat)(xs:List Value)(c:Int)(w:World)(ef:B<=w.heap.size)(cm:w.ownsRow B 5 1 v n xs)(C:n<=1099511627776)(F:2048<=c)(G:c<=65535)(h:¬(55296<=c/\c<=57343)):Calls prog 75 #[v,.int .i64 c] w (PX B n xs [224+c/4096,128+c/64%64,128+c%64] w):=by
 have L:((Az c:Int)==1)=false:=GH;have ac:((Az c:Int)==2)=false:=GH;have ad:((Az c:Int)==3)=true:=GH;obtain⟨m,dI,q,s,A⟩:=Cp infu5;have am:bits .or .i64 224 (c/4096)=224+c/4096:=AnF _ O O;have a9:(224+c/4096)%256=224+c/4096:=O;clear h;go_enter func75,ntmps75;go_wp2_with (first
  | (go_at_call 74;refine(OF _ _).mono ?_;rintro e w' ⟨rfl,rfl⟩)
  | (go_at_call 119;refine(Wm _ _ O O).mono ?_;rintro e w' ⟨rfl,rfl⟩)
  | (at_builtin;refine ID _ rfl _ _ 47 rfl B 5 m (.int .u8 0) 1 1 underlying47 dI q s A rfl Aw _ _ _ rfl (cm.alloc _) ⟨w.heap.size,0,none⟩ 3 3 [.int .u8 (224+c/4096),.int .u8 (128+c/64%64),.int .u8 (128+c%64)] rfl rfl ?c1 ?c2 ?c3 ?c4 ?c5 ?_))
 case c1=>exact VP _ _ _ _ rfl
 case c2=>intro u b;simp at b;rcases b with rfl|rfl|rfl<;>rfl
 case c3=>unfold maxLen;omega
 case c4=>omega
 case c5=>simp;omega
 exact ZF
def Akd(B:Nat)(v:Value)(n:Nat)(xs:List Value)(c:Int)(w:World)(ef:B<=w.heap.size)(cm:w.ownsRow B 5 1 v n xs)(A:n<=1099511627776)(C:65536<=c)(F:c<=1114111):Calls prog 75 #[v,.int .i64 c] w (PX B n xs [240+c/262144,128+c/4096%64,128+c/64%64,128+c%64] w):=by
 have G:((Az c:Int)==1)=false:=GH;have L:((Az c:Int)==2)=false:=GH;have ac:((Az c:Int)==3)=false:=GH;obtain⟨h,dI,m,q,s⟩:=Cp infu5;have ad:bits .or .i64 240 (c/262144)=240+c/262144:=AnG _ O O;have am:(240+c/262144)%256=240+c/262144:=O;go_enter func75,ntmps75;go_wp2_with (first
  | (go_at_call 74;refine(OF _ _).mono ?_;rintro e w' ⟨rfl,rfl⟩)
  | (go_at_call 119;refine(Wm _ _ O O).mono ?_;rintro e w' ⟨rfl,rfl⟩)
  | (at_builtin;refine ID _ rfl _ _ 47 rfl B 5 h (.int .u8 0) 1 1 underlying47 dI m q s rfl Aw _ _ _ rfl (cm.alloc _) ⟨w.heap.size,0,none⟩ 4 4 [.int .u8 (240+c/262144),.int .u8 (128+c/4096%64),.int .u8 (128+c/64%64),.int .u8 (128+c%64)] rfl rfl ?c1 ?c2 ?c3 ?c4 ?c5 ?_))
 case c1=>exact VP _ _ _ _ rfl
 case c2=>intro u b;simp at b;rcases b with rfl|rfl|rfl|rfl<;>rfl
 case c3=>unfold maxLen;omega
 case c4=>omega
 case c5=>simp;omega
 exact ZF
def Ake(B:Nat)(v:Value)(n:Nat)(xs:List Value)(c:Int)(w:World)(b:B<=w.heap.size)(e:w.ownsRow B 5 1 v n xs)(h:n<=1099511627776)(k:Az c≠0):Calls prog 75 #[v,.int .i64 c] w (PX B n xs (Bq c) w):=by
 unfold Az at k;unfold Bq;split
 ·exact Aka B v n xs c w b e h O O
 split
 ·exact Akb B v n xs c w b e h O O
 split
 ·exact Akc B v n xs c w b e h O O O
 ·exact Akd B v n xs c w b e h O O
def Ato(s:ByteArray)(b:Nat)(w:World)(c:s.size<=maxLen)(h:b<s.size)(bx:BP s[b].toNat=0\/(s.size:Int)-b<BP s[b].toNat):Calls prog 149 #[.string s,.int .i64 b] w λe w'=>e=.returned (.tuple #[.int .i64 0,.int .i64 0])/\w=w':=by
 unfold maxLen at c;have q:=s[b].toNat_lt;have k:=Rc s[b].toNat O O;obtain⟨A,C,F,G⟩:=k;by_cases bl:BP s[b].toNat=0
 ·have m:(BP s[b].toNat==0)=true:=by simp[bl]
  exact Ayp
 ·have m:(BP s[b].toNat==0)=false:=by simp[bl]
  have L:(s.size:Int)-b<BP s[b].toNat:=O;exact Ayp
def AcS(l:List UInt8)(j:Nat)(h:j<l.length):l.getD j 0=l[j]:=JM
def Aum(l:List UInt8)(k:Nat)(h:k<l.length):l.take (k+1)=l.take k++[l.getD k 0]:=by
 rw[E9 h,AcS l k h]
def AtV(b:Int)(m c:Int)(w:World)(h:0<=b)(k:b<=255)(q:Hid (BP b=m))(s:Hid (Er b=c)):Calls prog 218 #[.int .u8 b] w λe w'=>e=.returned (.tuple #[.int .i64 c,.int .i64 m])/\w=w':=by
 rw[<-q.out,<-s.out];exact Agk b w h k
def AlG(w:World)(s:ByteArray):∃b cap k,(convert 9 47 (.string s)).run prog w=.ok (.slice (some ⟨b,0,none⟩) s.size cap) k/\(∀j (h:j<s.size),k.cell? ⟨b,j,none⟩=some (.int .u8 (s[j].toNat:Int)))/\w.heap.size<=b/\Below w.heap.size w k:=by
 refine⟨_,_,_,run_bytes_of_string w _ _ _ s underlying9 underlying47 underlying5,?_,Ac _,?_⟩
 ·intro j h;have e:∀(c:Array Value) f,(w.drew.alloc (.cells c 5 f)).cell? ⟨w.heap.size,j,none⟩=c[j]? := by
   intro c f;have h:(w.drew.alloc (.cells c 5 f)).heap[w.heap.size]? = some (.cells c 5 f):=by
    show (w.heap.push (.cells c 5 f))[w.heap.size]? = _;exact J
   unfold World.cell?;rw[h];rfl
  rw[e,bytesRow_at s _ j h];rfl
 ·exact((Al _ _).drew).alloc (Ac _) _
def LC(b:Int)(m:Int)(l:List UInt8):Int × Int:=
 match Cd b l with
 | none=>(0,0)
 | some c=>if Az c=m then(c,m) else(0,0)
def Atp(s:ByteArray)(m n:Nat)(w:World)(bs:s.size<=maxLen)(h:m<s.size)(bt:Hid (BP s[m].toNat=n+1))(b3:n+1+m<=s.size)(b4:n<=3):Calls prog 149 #[.string s,.int .i64 m] w λe w'=>e=.returned (.tuple #[.int .i64 (LC (Er s[m].toNat) (n+1) (s.extract (m+1) (m+(n+1))).data.toList).1,.int .i64 (LC (Er s[m].toNat) (n+1) (s.extract (m+1) (m+(n+1))).data.toList).2])/\Below w.heap.size w w':=by
 unfold maxLen at bs;have b5:=s[m].toNat_lt;have a':((n:Int)+1==0)=false:=Ae;obtain⟨b,cap,W,bv,ba,b6,dN⟩:=AlG w (s.extract (m+1) (m+(n+1)));have ad:(s.extract (m+1) (m+(n+1))).size=n:=Ae;obtain⟨bb,bc,_,_⟩:=Rc s[m].toNat O O;rw[ad]at bv;obtain⟨q,C⟩:∃q,Er s[m].toNat=q:=⟨_,rfl⟩;obtain⟨X,F⟩:∃X,(s.extract (m+1) (m+(n+1))).data.toList=X:=⟨_,rfl⟩;have am:X.length=n:=by rw[<-F];exact ad
 have bd:∀j (h:j<n),W.cell? ⟨b,j,none⟩=some (.int .u8 ((X.getD j 0).toNat:Int)):=by
  intro j bx;rw[ba j O];subst F;rw[AcS _ _ (by rw[am];exact bx)];rfl
 rw[C,F];rw[C]at bb bc;have b0:=U C;have b1:=U bd;have be:=U am;clear C F ba bd ad am;go_enter func149,ntmps149;go_wp2_with (first
  | (go_at_call 218;refine(AtV _ (n+1) q _ O O bt b0).mono ?_;rintro e w' ⟨rfl,rfl⟩))
 go_loop[4,5,34] (λc z i=>∃k:Nat,∃d:Int,k<=n/\i=.int .i64 k/\c=.int .i64 d/\z=.int .i64 (n+1)/\Hid (Cd q (X.take k)=some d)) (λ_ _ i=>n-(intOf i).toNat)
 case atStart=>exact⟨0,q,Au _,rfl,rfl,rfl,by simp[Hid,Cd]⟩
 case round=>
  obtain⟨k,d,b7,rfl,rfl,rfl,a9⟩:=hrel;obtain⟨b8,b9⟩:=AlD _ q d a9.out bb bc Ae;by_cases bl:k<n
  ·obtain⟨x,G⟩:∃x,X.getD k 0=x:=⟨_,rfl⟩;have b':W.cell? ⟨b,k,none⟩=some (.int .u8 (x.toNat:Int)):=by rw[b1.out k bl,G]
   have L:=Aum X k (by rw[be.out];exact bl);rw[G]at L;have A:=Ab5 x (X.take k) q;rw[a9.out,<-L]at A;have ca:=x.toNat_lt;by_cases ac:128<=(x.toNat:Int)/\(x.toNat:Int)<192
   ·have c6:Hid (Cd q (X.take (k+1))=some (d*64+((x.toNat:Int)-128))):=by rw[A];simp[Hid,ac]
    clear A L G;obtain⟨cb,cc⟩:=ac;have cd:bits .or .i64 (d*64) ((x.toNat:Int)-128)=d*64+((x.toNat:Int)-128):=AnH _ _ O O O O O;go_wp2_with (go_at_call 219;refine(Ada _ _ O O).mono ?_;rintro e w' ⟨rfl,rfl⟩);go_round
    case rel=>exact⟨k+1,_,O,An,rfl,rfl,c6⟩
    case measure=>simp[intOf];omega
   ·have c6:Hid (LC q (n+1) X=(0,0)):=by
     have a':Cd q X=none:=by
      rw[<-FG (k+1) X];apply Ab4;rw[A];simp[ac]
     simp[Hid,LC,a']
    clear A L G;have ce:(x.toNat:Int)<128\/192<=(x.toNat:Int):=O;clear ac;go_wp2_with (go_at_call 219;refine(Ac' _ _ O).mono ?_;rintro e w' ⟨rfl,rfl⟩);go_ret2;exact ZU
  ·obtain rfl:k=n:=by omega
   have cI:Cd q X=some d:=by rw[<-a9.out,AO (by rw[be.out];omega)]
   by_cases cl:Az d=k+1
   ·have c6:Hid (LC q (k+1) X=(d,(k:Int)+1)):=by simp[Hid,LC,cI,cl]
    have b2:(Az d !=(k:Int)+1)=false:=by simp[cl]
    exact AvA
   ·have c6:Hid (LC q (k+1) X=(0,0)):=by simp[Hid,LC,cI,cl]
    have b2:(Az d !=(k:Int)+1)=true:=by simp[cl]
    exact AvA
def AmH(s:ByteArray)(a b:Nat):(s.extract a b).data.toList=(s.data.toList.drop a).take (b-a):=by
 rw[RW,RV]
def Atn(s:ByteArray)(b:Nat)(w:World)(m:s.size<=maxLen)(h:b<s.size):Calls prog 149 #[.string s,.int .i64 b] w λe w'=>e=.returned (.tuple #[.int .i64 (A1 (s.data.toList.drop b)).1,.int .i64 (A1 (s.data.toList.drop b)).2])/\Below w.heap.size w w':=by
 have A:s.data.toList.drop b=s[b]::s.data.toList.drop (b+1):=EP Co;have L:(s.data.toList.drop (b+1)).length=s.size-(b+1):=J;have ac:=s[b].toNat_lt;have ad:=Rc s[b].toNat O O;rw[A];unfold A1;by_cases q:BP s[b].toNat=0\/((s.data.toList.drop (b+1)).length:Int)+1<BP s[b].toNat
 ·simp only[N q];exact(Ato s b w m h O).mono λe w' ⟨C,c⟩=>⟨C,c▸Al _ _⟩
 ·simp only[V q];obtain⟨n,k⟩:∃n:Nat,BP s[b].toNat=(n:Int)+1:=⟨(BP s[b].toNat-1).toNat,O⟩;have F:(s.extract (b+1) (b+(n+1))).data.toList=(s.data.toList.drop (b+1)).take (BP s[b].toNat-1).toNat:=by
   rw[k,AmH,show b+(n+1)-(b+1)=n by omega,show ((n:Int)+1-1).toNat=n by omega]
  refine(Atp s b n w m h k O O).mono ?_;rintro e w' ⟨rfl,c⟩;rw[F,k];refine⟨?_,c⟩;unfold LC;split<;>first|rfl|(rename_i G;rw[G])
def Af7(s:ByteArray)(b:Nat)(c z:Int)(w:World)(k:s.size<=maxLen)(h:b<s.size)(m:Hid (A1 (s.data.toList.drop b)=(c,z))):Calls prog 149 #[.string s,.int .i64 b] w λe w'=>e=.returned (.tuple #[.int .i64 c,.int .i64 z])/\Below w.heap.size w w':=by
 have:=Atn s b w k h;rw[m.out]at this;exact this
def FM(L:List UInt8):List Int × Int × Int:=
 if 4096<L.length then([],0,7)else if(Bt L).2<L.length then([],((Bt L).2:Int),9) else((Bt L).1,0,0)
def AaL(r:List Int × Int × Int)(w:World)(e:Ending)(w':World):Prop:=
 ∃v,e=.returned (.tuple #[v,.int .i64 r.2.1,.int .i64 r.2.2])/\Ak w' w.heap.size v r.1/\Below w.heap.size w w'
def AlY(s:ByteArray)(w:World)(ad:s.size<=maxLen):Calls prog 102 #[.string s] w (AaL (FM s.data.toList) w):=by
 have C:=ad;unfold maxLen at ad;obtain⟨L,b⟩:∃L,s.data.toList=L:=⟨_,rfl⟩;have q:L.length=s.size:=by rw[<-b];rfl
 rw[b];by_cases bs:4096<s.size
 ·have ac:Hid (FM L=([],0,7)):=by simp[Hid,FM,q,bs]
  clear q b;go_enter func102,ntmps102;exact AwJ
 have am:=U b;have A:=U q;clear b q;obtain⟨a9,dI,a',bb,dE⟩:=Cp info3;go_enter func102,ntmps102;go_wp2_with (at_make;refine wpList_make_own _ rfl _ _ 22 rfl w.heap.size 3 a9 (.int .i64 0) 1 underlying22 dI a' bb .i64 .i64 _ s.size rfl rfl rfl I3 C (Ac _) ?_;intro w0 bc bd);go_loopw[5,6] (λv i wr=>∃p:Nat,∃xs:List Int,p<=s.size/\i=.int .i64 p/\Hid ((Bt L).1=xs++(Bt (L.drop p)).1/\(Bt L).2=p+(Bt (L.drop p)).2)/\Ak wr w.heap.size v xs/\xs.length<=p/\Below w.heap.size w wr) (λ_ i _=>s.size-(intOf i).toNat)
 case atStart=>exact⟨0,[],Au _,rfl,DH,bc,Au _,(Al _ _).grown bd (Ac _) J⟩
 case round=>
  obtain⟨p,xs,bx,rfl,eN,cm,b0,dN⟩:=hrel;clear bc bd;by_cases be:p<s.size
  ·obtain⟨c,z,fk⟩:∃c z,A1 (L.drop p)=(c,z):=⟨_,_,rfl⟩;have F:=Ni (L.drop p);rw[fk]at F;simp only[GK,A.out]at F;obtain⟨b1,b2⟩:=F;by_cases h:z=0
   ·have bt:(z==0)=true:=by simp[h]
    have ac:Hid (FM L=([],(p:Int),9)):=by
     have:=eN.out.2;rw[Nc (L.drop p) (by rw[fk];exact h)]at this;simp only[E_]at this;have bv:=A.out;rw[Hid,FM,V O,N O,this]
    rw[<-am.out]at fk;have G:=U fk;clear fk h;go_wp2_with (go_at_call 149;refine(Af7 s p c z _ C be G).mono ?_;rintro e w1 ⟨rfl,cC⟩);go_ret3;rw[ac.out];exact⟨_,rfl,Ak.nil _ _,dN.trans (cC.mono dN.size)⟩
   ·have bt:(z==0)=false:=by simp[h]
    obtain⟨m,rfl⟩:∃m:Nat,z=((m+1:Nat):Int):=⟨(z-1).toNat,O⟩;have ac:Hid ((Bt L).1=(xs++[c])++(Bt (L.drop (p+(m+1)))).1/\(Bt L).2=(p+(m+1))+(Bt (L.drop (p+(m+1)))).2):=Avu;rw[<-am.out]at fk;have G:=U fk;clear fk h;go_wp2_with (first
     | (go_at_call 149;refine(Af7 s p c _ _ C be G).mono ?_;rintro e w1 ⟨rfl,cC⟩)
     | (at_builtin;refine ID _ rfl _ _ 22 rfl w.heap.size 3 a9 (.int .i64 0) 1 8 underlying22 dI a' bb dE rfl Aw _ _ _ rfl ((cm.below Pq).alloc _) ⟨_,0,none⟩ 1 1 [.int .i64 c] rfl rfl (IB _ _ _) ?c2 ?c3 ?c4 ?c5 ?_))
    case c2=>intro u bl;simp at bl;subst bl;rfl
    case c3=>unfold maxLen;omega
    case c4=>omega
    case c5=>have:=dN.size;have:=cC.size;simp;omega
    intro fa w2 kk fy _;exact AxW
  ·obtain rfl:p=s.size:=by omega
   have ac:Hid (FM L=(xs,0,0)):=by
    have:=eN.out;rw[G0 (by rw[A.out];exact Ac _),Nc [] rfl]at this;simp only[E8,E_]at this;have bv:=A.out;rw[Hid,FM,V O,V O,this.1]
   go_wp2;go_ret3;rw[ac.out];exact⟨_,rfl,cm,dN⟩
def AdI(c z: Int)(w: World)(h: Hid (Az c = z)) :
  Calls prog 74 #[.int .i64 c] w λe w'=>e=.returned (.int .i64 z)/\w=w':=h.out▸OF c w
def Ami(p:Option Addr)(cap:Nat)(ao:List Int)(w:World)(q:Aq w p ao)(a':ao.length<=maxLen):Calls prog 47 #[.slice p ao.length cap] w λe w'=>e=.returned (.tuple #[.string (Cl ao).1,.int .i64 (Cl ao).2])/\Below w.heap.size w w':=by
 unfold maxLen at a';by_cases s:4096<ao.length
 ·have ac:Hid (Cl ao=(ByteArray.empty,7)):=by simp[Hid,Cl,s]
  clear q;go_enter func47,ntmps47;go_wp2;go_ret2;exact Ah8
 have ba:=U q;clear q;obtain⟨bb,dI,bc,bd,dE⟩:=Cp infu5;go_enter func47,ntmps47;go_wp2_with (at_make;refine wpList_make_own _ rfl _ _ 47 rfl w.heap.size 5 bb (.int .u8 0) 1 underlying47 dI bc bd .i64 .i64 _ ao.length rfl rfl rfl I3 BQ (Ac _) ?_;intro w0 G L);go_loopw[4,15] (λv i wr=>∃k:Nat,k<=ao.length/\i=.int .i64 k/\Hid (GR (ao.take k)=true)/\wr.ownsRow w.heap.size 5 1 v (Bj (ao.take k)).length ((Bj (ao.take k)).map (.int .u8))/\Below w.heap.size w wr) (λ_ i _=>ao.length-(intOf i).toNat)
 case atStart=>exact⟨0,Au _,rfl,rfl,G,(Al _ _).grown L (Ac _) J⟩
 case round=>
  obtain⟨k,b1,rfl,A,C,dN⟩:=hrel;clear G L;by_cases ad:k<ao.length
  ·obtain⟨b,ff,rfl,be⟩:=(ba.out.below dN) k ad;obtain⟨x,F⟩:∃x,ao.getD k 0=x:=⟨_,rfl⟩;have h:=C4 ao k ad;rw[F]at be h;have b2:=Oy (ao.take k);have b3:(ao.take k).length<=k:=List.length_take_le _ _;obtain⟨z,m⟩:∃z,Az x=z:=⟨_,rfl⟩;have am:=U m;by_cases c:z=0
   ·have bl:(z==0)=true:=by simp[c]
    have ac:Hid (Cl ao=(ByteArray.empty,3)):=by
     have:GR ao=false:=by
      rw[<-FG (k+1) ao,h];simp[GR,m,c]
     rw[Hid,Cl,V s,this];rfl
    clear h F m c;go_wp2_with (go_at_call 74;refine(AdI _ z _ am).mono ?_;rintro e w1 ⟨rfl,rfl⟩);exact YR
   ·have bl:(z==0)=false:=by simp[c]
    have bs:Hid (GR (ao.take (k+1))=true):=by rw[h];simp[Hid,AaS,A.out,m,c]
    have bt:Hid (Bj (ao.take (k+1))=Bj (ao.take k)++Bq x):=by rw[h,AcP];rfl
    have a9:Az x≠0:=by rw[m];exact c
    have bv:=U a9;clear h F m c a9;go_wp2_with (first
     | (go_at_call 74;refine(AdI _ z _ am).mono ?_;rintro e w1 ⟨rfl,rfl⟩)
     | (go_at_call 75;refine(Ake w.heap.size _ _ _ _ _ dN.size C O bv.out).mono ?_;rintro e w1 ⟨b4,rfl,bx,b0⟩))
    go_roundw
    case rel=>exact⟨k+1,O,An,bs,by rw[bt.out];simpa using bx,dN.trans b0⟩
    case measure=>simp[intOf];omega
  ·obtain rfl:k=ao.length:=by omega
   rw[PP]at C A;have b5:=SY C;have ac:Hid (Cl ao=(strOfNums (Bj ao),0)):=by
    rw[Hid,Cl,V s,N A.out]
   go_wp2;exact YR
def Agl(a b:List Int):strOfNums (a++b)=strOfNums a++strOfNums b:=by
 apply Pz;apply Array.ext';simp[strOfNums]
theorem WG:∀(l:List (List Int)) (x:List Int),A7 (l++[x])=if l=[]then x else A7 l++46::x
 | [],x=>rfl
 | [y],x=>by simp[A7]
 | y::z::t,x=>by
  have b:=WG (z::t) x;rw[CH,Hb y J,b,V J,V J,Hb y J];exact J
def Agv(s:ByteArray):List ByteArray:=(AU (Ap s)).map strOfNums
def Fw(L:List ByteArray):ByteArray:=strOfNums (A7 (L.map Ap))
def OI(L:List ByteArray):ByteArray × Int:=if(CW (L.map ByteArray.size)).2≠0 then(ByteArray.empty,(CW (L.map ByteArray.size)).2) else(Fw L,0)
def Xd:Fw []=ByteArray.empty:=rfl
def Aed(l:List ByteArray)(x:ByteArray):Fw (l++[x])=if l=[]then x else(Fw l++ByteArray.mk #[46])++x:=by
 unfold Fw;rw[FY,Aap,WG];cases l with
 | nil=>simp[Af6]
 | cons y t =>
  rw[V J,V J,Agl,show (46::Ap x)=[46]++Ap x from rfl,Agl,Af6,Aaa];rfl
def Xe(L:List ByteArray):(Fw L).size=(L.map ByteArray.size).sum+(L.length-1):=by
 unfold Fw;rw[Et,Nu,LZ,C6];congr 2;exact Jc (λx _=>Be x)
def Up(L:List ByteArray)(k:Nat)(h:k<L.length):L.take (k+1)=L.take k++[L.getD k ByteArray.empty]:=by
 rw[E9 h];simp[h]
def AgG(L:List (List Int))(k:Nat)(h:k<L.length):L.take (k+1)=L.take k++[L.getD k []]:=by
 rw[E9 h];simp[h]
def Ab'{D:List (List Int)}{b l:List Int}{k:Nat}(c:k<l.length)(h:l.getD k 0=46):Ce D b (l.drop k)=Ce (D++[b]) [] (l.drop (k+1)):=by
 rw[EP c];have:l[k]=46:=by rw[<-h];simp[c]
 rw[this,IN]
def Ace{D:List (List Int)}{b l:List Int}{k:Nat}{c:Int}(e:k<l.length)(h:l.getD k 0=c)(m:c≠46):Ce D b (l.drop k)=Ce D (b++[c]) (l.drop (k+1)):=by
 rw[EP e];have:l[k]=c:=by rw[<-h];simp[e]
 rw[this,Jm _ _ _ m]
def Aca{D:List (List Int)}{b l:List Int}{k:Nat}(c:l.length<=k):Ce D b (l.drop k)=D++[b]:=by
 rw[G0 c];rfl
def AlN(D:List (List Int))(b l:List Int):((Ce D b l).map List.length).sum<=(D.map List.length).sum+b.length+l.length:=by
 induction l generalizing D b with
 | nil=>simp[Ce]
 | cons c r e =>
  by_cases h:c=46
  ·subst h;rw[IN];have:=e (D++[b]) [];simp at this|-;omega
  ·rw[Jm _ _ _ h];have:=e D (b++[c]);simp at this|-;omega
def At7{L:List (List Int)}{x:List Int}(h:x∈L):x.length<=(L.map List.length).sum:=by
 induction L with
 | nil=>cases h
 | cons y t b =>
  rcases AX.1 h with rfl|h
  ·exact J
  ·have:=b h;simp;omega
def S7(l:List Int):∀x∈AU l,x.length<=l.length:=by
 intro x b;have c:=At7 b;have e:=AlN [] [] l;unfold AU at c b;simp at e;omega
def VV(l:List Int):(AU l).length<=l.length+1:=by
 rw[Ab9];have:=List.count_le_length (a:=(46:Int)) (l:=l);omega
end Go.Proofs.YtblcoicaeeiojaaGreatDoor
