/- alabel: contracts of low -/
import Derived.Test.YtblcoicaeeiojaaGreatDoorSOaPmPunRefD
set_option linter.all false
set_option maxHeartbeats 4000000
set_option maxRecDepth 100000
open Go.Proofs.Tryz
namespace Go.Proofs.YtblcoicaeeiojaaGreatDoor
open Go.RowKit
def Aj1{a b:Int}(h:a=b):Ending.returned (.int .u8 a)=.returned (.int .u8 b):=by rw[h]
def Ao9(c L:Int)(w:World)(q:0<=c)(s:c<=255)(df:Hid (By c=L)):Calls prog 271 #[.int .u8 c] w λe w'=>e=.returned (.int .u8 L)/\w'=w:=by
 rcases(show c<65\/(65<=c/\c<=90)\/(¬c<65/\90<c) by omega)with h|⟨b,k⟩|⟨b,k⟩
 ·have cF:Hid (c=L):=by unfold Hid;rw[<-df.out];unfold By;rw[V O]
  have m:¬65<=c:=O;exact Ahl
 ·have cF:Hid (c+32=L):=by unfold Hid;rw[<-df.out];unfold By;rw[N O]
  have A:IntKind.u8.wrap (c-65)=c-65:=LR;have C:IntKind.u8.wrap (c-65+97)=c+32:=LR;exact Ahl
 ·have cF:Hid (c=L):=by unfold Hid;rw[<-df.out];unfold By;rw[V O]
  have m:¬c<=90:=O;have F:65<=c:=O;exact Ahl
def Hf(L:List Int)(n:Nat):List Int:=L++List.replicate (n-L.length) 0
def AqZ(n:Nat):Hf [] n=List.replicate n 0:=by simp[Hf]
def Xw(L:List Int)(n:Nat)(h:n<=L.length):Hf L n=L:=by unfold Hf;rw[Nat.sub_eq_zero_of_le h];simp
def Xx(L:List Int)(n:Nat)(c:Int)(h:L.length<n):(Hf L n).set L.length c=Hf (L++[c]) n:=by
 unfold Hf;rw[PO,V O,MU];exact AyK
def Xv(L:List Int)(n:Nat)(t:IntKind)(h:L.length<n):((Hf L n).map (Value.int t))[L.length]? = some (.int t 0):=by
 unfold Hf;exact AyX
def AdP(s S:ByteArray)(w:World)(b4:s.size<=140737488355328)(ad:Hid (It s=S)):Calls prog 229 #[.string s] w λe w'=>e=.returned (.string S)/\Below w.heap.size w w':=by
 obtain⟨bb,dI,bc,bd,dE⟩:=Cp info5;obtain⟨L,h⟩:∃L,BN (Ap s)=L:=⟨_,rfl⟩;have eu:Hid (L.length=s.size):=by unfold Hid;rw[<-h,QD,Be]
 have be:Hid (strOfNums L=S):=by unfold Hid;rw[<-ad.out,<-h];rfl
 have bl:=U h;clear h ad;go_enter func229,ntmps229;go_wp2_with (at_make;refine PI _ rfl _ _ 47 rfl w.heap.size 5 bb (.int .u8 0) 1 underlying47 dI bc bd .i64 .i64 _ _ s.size rfl rfl rfl rfl I3 BQ (Ac _) ?_;intro w0 i4 am);have a9:w0.ownsRow w.heap.size 5 1 (.slice (some ⟨w.heap.size,0,none⟩) s.size s.size) s.size ((Hf [] s.size).map (.int .u8)):=by
  have e:(madeCells (Value.int .u8 0).cells (s.size*1)).toList=List.replicate (s.size*1) (.int .u8 0):=PH _ _;exact Aik
 have a':Below w.heap.size w w0:=(Al _ _).grown am (Ac _) J;have bs:=U a9;have bt:=U a';clear a9 a' i4 am;go_loopw[10] (λi wr=>∃k:Nat,k<=s.size/\i=.int .i64 k/\Hid (wr.ownsRow w.heap.size 5 1 (.slice (some ⟨w.heap.size,0,none⟩) s.size s.size) s.size ((Hf (L.take k) s.size).map (.int .u8)))/\Hid (Below w.heap.size w wr)) (λi _=>s.size-(intOf i).toNat)
 case atStart=>exact⟨0,Au _,rfl,bs,bt⟩
 case round=>
  obtain⟨k,b5,rfl,b,m⟩:=hrel;by_cases ee:k<s.size
  ·have q:(L.take k).length=k:=by rw[GL,eu.out];omega
   have bv:=b.out.cellAt k O;have A:=Xv (L.take k) s.size .u8 O;rw[q]at A;rw[A]at bv;have b6:=b.out.frozenAt k;obtain⟨c,bx⟩:∃c:Int,(s[k].toNat:Int)=c:=⟨_,rfl⟩;have b0:0<=c:=O;have b1:c<=255:=Ru;obtain⟨y,C⟩:∃y,By c=y:=⟨_,rfl⟩;have b2:=U C;have ba:L.take (k+1)=L.take k++[y]:=by
    rw[<-bl.out,AdL _ k UI,Kt s k ee,bx,C]
   have F:=b.out.stored k (.int .u8 y);have G:=Xx (L.take k) s.size y O;rw[q,<-ba]at G;rw[<-KV,G]at F;have ji:=U F.1;have cx:=U (m.out.setCell (p:=⟨w.heap.size,k,none⟩) (Ac _) (.int .u8 y));clear F b A q C ba G m;go_wp2_with (go_at_call 271;refine(Ao9 c y _ b0 b1 b2).mono ?_;rintro e b7 ⟨rfl,rfl⟩);exact AiJ
  ·obtain rfl:k=s.size:=by omega
   have ac:=b.out;rw[AO Pm,Xw _ _ Pm]at ac;have b3:=SY ac;rw[be.out]at b3;clear ac b;go_wp2;go_ret;exact⟨rfl,m.out⟩
def WC(s:ByteArray)(B:Bool)(w:World)(F:s.size<=140737488355328)(b:Hid (Ft (Ap s)=B)):Calls prog 158 #[.string s] w λe w'=>e=.returned (.bool B)/\Below w.heap.size w w':=by
 by_cases h:4<=s.size
 ·obtain⟨S,c⟩:∃S,It (s.extract 0 4)=S:=⟨_,rfl⟩;have m:=Adh s h;rw[c,b.out]at m;have q:=U c;have k:(s.extract 0 4).size<=140737488355328:=by rw[U7];omega
  have A:=U k;clear c k b;go_enter func158,ntmps158;go_wp2_with (go_at_call 229;refine(AdP _ S _ A.out q).mono ?_;rintro e G ⟨rfl,C⟩);go_ret;exact⟨rfl,C⟩
 ·have b1:Hid (B=false):=by unfold Hid;rw[<-b.out];exact Adg s h
  clear b;go_enter func158,ntmps158;exact Axm
def M8(p:Option Addr)(n cap:Nat)(l:List Int)(B:Bool)(w:World)(c:Aq w p l)(bx:Hid (l.length=n))(m:n<=17592186043904)(ef:Hid (D5 l=B)):Calls prog 112 #[.slice p n cap] w λe w'=>e=.returned (.bool B)/\w'=w:=by
 have dG:=U c;clear c;go_enter func112,ntmps112;exact AAO
def TL(s:ByteArray)(B:Bool)(w:World)(C:s.size<=140737488355328)(h:Hid (((Ap s).any λc=>decide (127<c)) = !B)):Calls prog 230 #[.string s] w λe w'=>e=.returned (.bool B)/\w'=w:=by
 go_enter func230,ntmps230;go_wp2;go_loopw[6] (λi wr=>∃k:Nat,k<=s.size/\i=.int .i64 k/\Hid (∀j,j<k->(Ap s).getD j 0<=127)/\wr=w) (λi _=>s.size-(intOf i).toNat)
 case atStart=>exact⟨0,Au _,rfl,λj m=>O,rfl⟩
 case round=>
  obtain⟨k,F,rfl,cI,rfl⟩:=hrel;by_cases ee:k<s.size
  ·have cA:=Kt s k ee;obtain⟨c,A⟩:∃c:Int,(s[k].toNat:Int)=c:=⟨_,rfl⟩;rw[A]at cA;by_cases q:127<c
   ·have b1:Hid (B=false):=by
     have b:=h.out;rw[AaZ (k:=k) UI (by rw[cA];exact q)]at b;unfold Hid;cases B with
     | false=>rfl
     | true=>exact absurd b J
    clear cA cI h;exact UV
   ·have fR:Hid (∀j,j<k+1->(Ap s).getD j 0<=127):=λj m=>Azb;have G:decide (127<c)=false:=Ai q;clear cA cI;exact AAh
  ·obtain rfl:k=s.size:=by omega
   have b1:Hid (B=true):=by
    have b:=h.out;rw[Aa1 (λj m=>cI.out j (by rw[Be]at m;exact m))]at b;unfold Hid;cases B with
    | false=>exact absurd b J
    | true=>rfl
   clear cI h;exact UV
def Amd(s:ByteArray)(w:World)(bv:s.size<=1048576):Calls prog 232 #[.string s] w λe w'=>∃v,e=.returned v/\Ak w' w.heap.size v (Ap s)/\Below w.heap.size w w':=by
 obtain⟨ba,dI,bb,bc,dE⟩:=Cp info3;obtain⟨L,h⟩:∃L,Ap s=L:=⟨_,rfl⟩;have eu:Hid (L.length=s.size):=by unfold Hid;rw[<-h,Be]
 have ac:=U h;clear h;go_enter func232,ntmps232;go_wp2_with (at_make;refine PI _ rfl _ _ 22 rfl w.heap.size 3 ba (.int .i64 0) 1 underlying22 dI bb bc .i64 .i64 _ _ s.size rfl rfl rfl rfl I3 BQ (Ac _) ?_;intro w0 i4 ad);have am:w0.ownsRow w.heap.size 3 1 (.slice (some ⟨w.heap.size,0,none⟩) s.size s.size) s.size ((Hf [] s.size).map (.int .i64)):=by
  have e:(madeCells (Value.int .i64 0).cells (s.size*1)).toList=List.replicate (s.size*1) (.int .i64 0):=PH _ _;exact Aik
 have a9:Below w.heap.size w w0:=(Al _ _).grown ad (Ac _) J;have bd:=U am;have be:=U a9;clear am a9 i4 ad;go_loopw[10] (λi wr=>∃k:Nat,k<=s.size/\i=.int .i64 k/\Hid (wr.ownsRow w.heap.size 3 1 (.slice (some ⟨w.heap.size,0,none⟩) s.size s.size) s.size ((Hf (L.take k) s.size).map (.int .i64)))/\Hid (Below w.heap.size w wr)) (λi _=>s.size-(intOf i).toNat)
 case atStart=>exact⟨0,Au _,rfl,bd,be⟩
 case round=>
  obtain⟨k,bx,rfl,b,m⟩:=hrel;by_cases ee:k<s.size
  ·have q:(L.take k).length=k:=by rw[GL,eu.out];omega
   have bl:=b.out.cellAt k O;have A:=Xv (L.take k) s.size .i64 O;rw[q]at A;rw[A]at bl;have b0:=b.out.frozenAt k;obtain⟨c,bs⟩:∃c:Int,(s[k].toNat:Int)=c:=⟨_,rfl⟩;have b1:0<=c:=O;have b2:c<=255:=Ru;have b3:IntKind.i64.wrap c=c:=AT _ O;have a':L.take (k+1)=L.take k++[c]:=by
    rw[C4 L k Ah9,<-ac.out,Kt s k ee,bs]
   have C:=b.out.stored k (.int .i64 c);have F:=Xx (L.take k) s.size c O;rw[q,<-a']at F;rw[<-KV,F]at C;have ji:=U C.1;have cx:=U (m.out.setCell (p:=⟨w.heap.size,k,none⟩) (Ac _) (.int .i64 c));clear C b A q a' F m;go_wp2;exact AiJ
  ·obtain rfl:k=s.size:=by omega
   have G:=b.out;rw[AO Pm,Xw _ _ Pm]at G;have bt:Hid (Ak wr w.heap.size (.slice (some ⟨w.heap.size,0,none⟩) s.size s.size) L):=by
    unfold Hid Ak;rw[eu.out];exact G
   clear G b;go_wp2;go_ret;exact⟨_,rfl,by rw[ac.out];exact bt.out,m.out⟩
def Amh(p:Option Addr)(n cap:Nat)(l X:List Int)(a':Int)(S:ByteArray)(w:World)(ba:Aq w p l)(bx:Hid (l.length=n))(b9:n<=17592186043904)(bl:Hid (D5 l=true))(m:Hid (Fv l=(X,a')))(A:Hid (strOfNums X=S)):Calls prog 113 #[.slice p n cap] w (P2 S a' w):=by
 have bs:=U ba;clear ba;by_cases fc:63<n
 ·have c:=m.out;unfold Fv at c;rw[N Zb]at c;injection c with C F;subst C;subst F;have c6:Hid (S=ByteArray.mk #[]):=A.out.symm;clear m A;go_enter func113,ntmps113;go_wp2;exact Rs
 have c:=m.out;unfold Fv at c;rw[V Zb]at c;injection c with C F;subst C;subst F;obtain⟨bt,dI,bv,b0,dE⟩:=Cp info5;have b':n<=63:=O;clear m fc;go_enter func113,ntmps113;go_wp2_with (at_make;refine PI _ rfl _ _ 47 rfl w.heap.size 5 bt (.int .u8 0) 1 underlying47 dI bv b0 .i64 .i64 _ _ n rfl rfl rfl rfl I3 BQ (Ac _) ?_;intro w0 i4 bb);have bc:w0.ownsRow w.heap.size 5 1 (.slice (some ⟨w.heap.size,0,none⟩) n n) n ((Hf [] n).map (.int .u8)):=by
  have e:(madeCells (Value.int .u8 0).cells (n*1)).toList=List.replicate (n*1) (.int .u8 0):=PH _ _;exact Aik
 have bd:Below w.heap.size w w0:=(Al _ _).grown bb (Ac _) J;have b1:=U bc;have b2:=U bd;clear bc bd i4 bb;go_loopw[15] (λi wr=>∃k:Nat,k<=n/\i=.int .i64 k/\Hid (wr.ownsRow w.heap.size 5 1 (.slice (some ⟨w.heap.size,0,none⟩) n n) n ((Hf (l.take k) n).map (.int .u8)))/\Hid (Below w.heap.size w wr)) (λi _=>n-(intOf i).toNat)
 case atStart=>exact⟨0,Au _,rfl,b1,b2⟩
 case round=>
  obtain⟨k,ca,rfl,h,q⟩:=hrel;by_cases b3:k<n
  ·have s:k<l.length:=by rw[bx.out];exact b3
   have G:(l.take k).length=k:=by rw[GL];omega
   have b4:=h.out.cellAt k O;have L:=Xv (l.take k) n .u8 O;rw[G]at L;rw[L]at b4;have cb:=h.out.frozenAt k;obtain⟨b,ff,rfl,b5⟩:=(bs.out.below q.out) k s;obtain⟨x,ac⟩:∃x,l.getD k 0=x:=⟨_,rfl⟩;obtain⟨b6,b7⟩:=VF bl.out s;rw[ac]at b5 b6 b7;have cc:IntKind.u8.wrap x=x:=LR;have be:l.take (k+1)=l.take k++[x]:=by rw[C4 l k s,ac]
   have ad:=h.out.stored k (.int .u8 x);have am:=Xx (l.take k) n x O;rw[G,<-be]at am;rw[<-KV,am]at ad;have ji:=U ad.1;have cx:=U (q.out.setCell (p:=⟨w.heap.size,k,none⟩) (Ac _) (.int .u8 x));clear ad h L G be am q ac s;go_wp2;exact AiJ
  ·obtain rfl:k=n:=by omega
   have a9:=h.out;rw[AO H6,Xw _ _ H6]at a9;have b8:=SY a9;rw[A.out]at b8;clear a9 h;go_wp2;go_ret2;exact⟨rfl,q.out⟩
def Td{l X:List Int}{e:Int}(h:Dk l=(X,e)):(∀c∈X,0<=c/\c<256)/\X.length<=4096:=by
 unfold Dk at h;split at h
 ·exact Rv
 ·split at h
  ·exact Rv
  ·rename_i s cD;injection h with a' be;have k:∀c∈l,BO c=true:=by
    have:l.all BO=true:=MH;exact GG
   refine⟨λc b=>?_,?_⟩
   ·rw[<-a']at b;rcases Bg.1 b with b|b
    ·unfold DM at b;rcases Bg.1 b with b|b
     ·have m:=VJ l c b;have q:=LH (k c (TW _ _ c b));omega
     ·split at b
      ·simp at b
      ·simp at b;omega
    ·have:=XC l _ _ _ _ _ _ c b;omega
   ·rw[<-a',Bc];have m:=AeR l k O (l.length-(Bm l).length) (C8 l) 128 0 72 true Zy O;have q:(Bm l).length<=l.length:=Ks _ _;have A:(DM (Bm l)).length<=(Bm l).length+1:=by unfold DM;rw[Bc];split<;>simp
    omega
def Ahd(X:List Int):ByteArray.mk #[120,110,45,45]++strOfNums X=strOfNums (FX++X):=by
 have e:ByteArray.mk #[120,110,45,45]=strOfNums FX:=by decide +kernel
 rw[e]
 apply ByteArray.ext
 apply Array.ext'
 simp[strOfNums]
def AaR(p:Option Addr)(n cap:Nat)(l X:List Int)(F:Int)(S:ByteArray)(w:World)(a9:Aq w p l)(bx:Hid (l.length=n))(G:n<=cap)(h:n<=17592186043904)(cr:Hid (AE l=(X,F)))(c:Hid (strOfNums X=S)):Calls prog 72 #[.slice p n cap] w (P2 S F w):=by
 have k:=U a9;clear a9;by_cases bl:n=0
 ·have ba:l=[]:=Bw Zc;have b:=cr.out;rw[ba,AdA]at b;injection b with m q;subst m;subst q;have c6:Hid (S=ByteArray.mk #[]):=c.out.symm;subst bl;clear cr c;go_enter func72,ntmps72;go_wp2;exact Rs
 have eQ:l≠[]:=λe=>bl Y';have bd:((n:Int)==0)=false:=Ae;cases em:D5 l with
 | true =>
  have C:=U em;have bb:Hid (Fv l=(X,F)):=Axn;clear cr em eQ;go_enter func72,ntmps72;go_wp2_with fail;refine(M8 p n cap l true _ k.out bx h C).mono ?_;rintro e w1 ⟨rfl,rfl⟩;go_wp2_with fail;refine(Amh p n cap l X F S _ k.out bx h C bb c).mono ?_;rintro e w2 ⟨rfl,dK⟩;go_wp2;go_ret2;exact⟨rfl,dK⟩
 | false =>
  have C:=U em;obtain⟨Y,f,s⟩:∃Y f,Dk l=(Y,f):=⟨_,_,rfl⟩;obtain⟨T,A⟩:∃T,strOfNums Y=T:=⟨_,rfl⟩;have L:=U s;have ac:=U A;have be:T.size<=4096:=by rw[<-A,Et];exact(Td s).2
  by_cases ad:f=0
  ·subst ad;have b:=cr.out;rw[Ady eQ em s]at b;unfold Fv at b;have am:(FX++Y).length=4+T.size:=by rw[<-A,Et];simp[FX];omega
   rw[am]at b;by_cases a':63<4+T.size
   ·rw[N a']at b;injection b with m q;subst m;subst q;have c6:Hid (S=ByteArray.mk #[]):=c.out.symm;have bc:(63:Int)<4+(T.size:Int):=O;clear cr em eQ s A c am;go_enter func72,ntmps72;go_wp2_with fail;refine(M8 p n cap l false _ k.out bx h C).mono ?_;rintro e w1 ⟨rfl,rfl⟩;go_wp2_with fail;refine(XD p n cap l Y 0 T _ k.out bx G h L ac).mono ?_;exact Z7
   ·rw[V a']at b;injection b with m q;subst q;have c6:Hid (ByteArray.mk #[120,110,45,45]++T=S):=by
     unfold Hid;rw[<-c.out,<-m,<-A];exact Ahd Y
    have bc:¬(63:Int)<4+(T.size:Int):=O;have bs:(ByteArray.mk #[120,110,45,45]).size=4:=rfl;clear cr em eQ s A c am m;go_enter func72,ntmps72;go_wp2_with fail;refine(M8 p n cap l false _ k.out bx h C).mono ?_;rintro e w1 ⟨rfl,rfl⟩;go_wp2_with fail;refine(XD p n cap l Y 0 T _ k.out bx G h L ac).mono ?_;exact Awc
  ·have b:=cr.out;rw[Adz eQ em s ad]at b;injection b with m q;subst m;subst q;have c6:Hid (S=ByteArray.mk #[]):=c.out.symm;have bt:(f !=0)=true:=by simp[ad]
   clear cr em eQ s A c;go_enter func72,ntmps72;go_wp2_with fail;refine(M8 p n cap l false _ k.out bx h C).mono ?_;rintro e w1 ⟨rfl,rfl⟩;go_wp2_with fail;refine(XD p n cap l Y f T _ k.out bx G h L ac).mono ?_;exact Z7
def F8{w:World}{B:Nat}{v:Value}{ao:List Int}(h:Ak w B v ao):∃p cap,v=.slice p ao.length cap/\Aq w p ao/\ao.length<=cap:=Ayg
def Al1(t:ByteArray)(s out:List Int)(bv:Int)(w:World)(cj:t.size<=63)(cl:4<=t.size)(b7:Hid (Ap t=BN s))(c:Hid (QR s (Gr (BN (s.drop 4)))=(out,bv))):Calls prog 231 #[.string t] w (DL out bv w):=by
 obtain⟨l,f,bx⟩:∃l f,Gr (BN (s.drop 4))=(l,f):=⟨_,_,rfl⟩;have b0:Ap (t.extract 4 t.size)=BN (s.drop 4):=by rw[TJ,b7.out];unfold BN;rw[Sd]
 obtain⟨u,bd⟩:∃u,t.extract 4 t.size=u:=⟨_,rfl⟩;rw[bd]at b0;have cm:u.size<=63:=by rw[<-bd,U7];omega
 have be:Hid (Gr (Ap u)=(l,f)):=by unfold Hid;rw[b0];exact bx
 have b1:=U bd;have b8:=(VY be.out).1;have b9:Hid (l.length<=2048):=b8;have b:=c.out;rw[bx]at b;unfold QR at b;simp only at b;clear c b0 bd bx b8;by_cases a9:f=0
 ·subst a9;rw[V J]at b;obtain⟨X,g,bl⟩:∃X g,AE l=(X,g):=⟨_,_,rfl⟩;obtain⟨R,b2⟩:∃R,strOfNums X=R:=⟨_,rfl⟩;have b':=Adx bl (λY f h=>(Td h).1);have ca:Ap R=X:=by rw[<-b2];exact Mo X b'
  have ac:(R.toList==t.toList)=decide (X=BN s):=by rw[VL,ca,b7.out]
  rw[bl]at b;simp only at b;have cd:=U bl;have ce:=U b2;clear bl b2 b' ca;cases ad:D5 l with
  | true =>
   have b3:=U ad;rw[N (.inl ad)]at b;injection b with k m;subst k;subst m;clear ad ac;go_enter func231,ntmps231;go_wp2_with fail;rw[b1.out];refine(XB u l 0 _ O be).mono ?_;rintro e w1 ⟨cb,rfl,q,C⟩;obtain⟨a',ba,rfl,F,bb⟩:=F8 q;have bc:=U F;have G:=U C;obtain⟨n,A⟩:∃n,l.length=n:=⟨_,rfl⟩;have bs:=U A;have b4:=b9.out;rw[A]at b4 bb;rw[A];clear q F C A;go_wp2_with fail;refine(M8 a' n ba l true _ bc.out bs O b3).mono ?_;rintro e w2 ⟨rfl,rfl⟩;go_wp2;go_ret2;exact DL.nil 12 G.out
  | false =>
   have b3:=U ad;have cc:(if g≠0\/X≠BN s then(([]:List Int),(12:Int)) else(l,0))=(out,bv):=by
    rw[<-b,ad];simp
   have am:=U cc;clear b cc ad;go_enter func231,ntmps231;go_wp2_with fail;rw[b1.out];refine(XB u l 0 _ O be).mono ?_;rintro e w1 ⟨cb,rfl,q,C⟩;obtain⟨a',ba,rfl,F,bb⟩:=F8 q;have b5:=U q;have bc:=U F;have G:=U C;obtain⟨n,A⟩:∃n,l.length=n:=⟨_,rfl⟩;have bs:=U A;have b4:=b9.out;rw[A]at b4 bb b5;rw[A];clear q F C A;go_wp2_with fail;refine(M8 a' n ba l false _ bc.out bs O b3).mono ?_;rintro e w2 ⟨rfl,rfl⟩;go_wp2_with fail;refine(AaR a' n ba l X g R _ bc.out bs bb O cd ce).mono ?_;rintro e w3 ⟨rfl,b6⟩;have f':=U (G.out.trans (b6.mono G.out.size));have cf:=U (b5.out.below b6);clear b6 b5 bc G;by_cases bt:g=0
   ·subst bt;by_cases L:X=BN s
    ·have c:=am.out;rw[V (by simp[L])]at c;injection c with k m;subst k;subst m;have jj:(R.toList==t.toList)=true:=by rw[ac];exact At L
     have cg:(R.toList !=t.toList)=false:=Za;have co:=U L;clear L ac am;go_wp2;go_ret2;exact⟨_,rfl,cf.out,f'.out⟩
    ·have c:=am.out;rw[N (.inr L)]at c;injection c with k m;subst k;subst m;have jj:(R.toList==t.toList)=false:=by rw[ac];exact Ai L
     have cg:(R.toList !=t.toList)=true:=Za;clear L ac am;exact Axv
   ·have c:=am.out;rw[N (.inl bt)]at c;injection c with k m;subst k;subst m;have ci:(g !=0)=true:=by simp[bt]
    clear bt ac am;exact Axv
 ·rw[N a9]at b;injection b with k m;subst k;subst m;have ci:(f !=0)=true:=by simp[a9]
  have cp:=U a9;clear a9;go_enter func231,ntmps231;go_wp2_with fail;rw[b1.out];refine(XB u l f _ O be).mono ?_;rintro e w1 ⟨cb,rfl,q,C⟩;obtain⟨a',ba,rfl,F,bb⟩:=F8 q;have G:=U C;clear q F C;go_wp2;go_ret2;exact DL.nil f G.out
def Aj0(s:ByteArray)(out:List Int)(a':Int)(w:World)(m:s.size<=140737488355328)(am:Hid (Jv (Ap s)=(out,a'))):Calls prog 159 #[.string s] w (DL out a' w):=by
 have b:=am.out;unfold Jv at b;by_cases C:s.size=0
 ·have bc:Ap s=[]:=Bw (by rw[Be];exact C);rw[N bc]at b;injection b with h q;subst h;subst q;have bt:=Uj s C;clear am bc C;go_enter func159,ntmps159;go_wp2;go_ret2;exact DL.nil 10 (Al _ _)
 have bd:Ap s≠[]:=λe=>C (by rw[<-Be,e];rfl);rw[V bd]at b;have bt:=Ui s C;clear bd C;cases F:(Ap s).any λc=>decide (127<c) with
 | true =>
  have L:Hid (((Ap s).any λc=>decide (127<c)) = !false):=by unfold Hid;rw[F];rfl
  rw[N F]at b;injection b with h q;subst h;subst q;clear am F;go_enter func159,ntmps159;go_wp2_with fail;refine(TL s false _ m L).mono ?_;rintro e w1 ⟨rfl,rfl⟩;go_wp2;go_ret2;exact DL.nil 12 (Al _ _)
 | false =>
  have L:Hid (((Ap s).any λc=>decide (127<c)) = !true):=by unfold Hid;rw[F];rfl
  rw[V (by rw[F];simp),Be]at b;clear am F;by_cases be:63<s.size
  ·rw[N be]at b;injection b with h q;subst h;subst q;go_enter func159,ntmps159;go_wp2_with fail;refine(TL s true _ m L).mono ?_;rintro e w1 ⟨rfl,rfl⟩;go_wp2;go_ret2;exact DL.nil 11 (Al _ _)
  ·rw[V be]at b;have b9:s.size<=63:=O;cases A:Ft (Ap s) with
   | false =>
    have ba:=U A;rw[N A]at b;injection b with h q;subst q;have bv:=U h;clear A h;go_enter func159,ntmps159;go_wp2_with fail;refine(TL s true _ m L).mono ?_;rintro e w1 ⟨rfl,rfl⟩;go_wp2_with fail;refine(WC s false _ m ba).mono ?_;rintro e w2 ⟨rfl,ac⟩;have k:=U ac;clear ac;go_wp2_with fail;refine(Amd s _ O).mono ?_;rintro e w3 ⟨b',rfl,bb,ad⟩;obtain⟨ca,cb,rfl,bx,cc⟩:=F8 bb;have b0:=U (Iv bb k.out.size);have G:=U (k.out.trans (ad.mono k.out.size));clear bb bx ad k;go_wp2;go_ret2;refine⟨_,rfl,?_,G.out⟩;rw[<-bv.out];exact b0.out
   | true =>
    have ba:=U A;rw[V (by rw[A];simp)]at b;have b1:=U b;have cd:4<=s.size:=by have:=Adf A;rwa[Be]at this
    obtain⟨t,a9⟩:∃t,It s=t:=⟨_,rfl⟩;have b2:t.size=s.size:=by rw[<-a9];exact WW s
    have b3:=U a9;have b4:Hid (Ap t=BN (Ap s)):=by unfold Hid;rw[<-a9];exact QI s
    have b5:t.size<=63:=O;have b6:4<=t.size:=O;clear A b a9 b2;go_enter func159,ntmps159;go_wp2_with fail;refine(TL s true _ m L).mono ?_;rintro e w1 ⟨rfl,rfl⟩;go_wp2_with fail;refine(WC s true _ m ba).mono ?_;rintro e w2 ⟨rfl,ac⟩;have k:=U ac;clear ac;go_wp2_with fail;refine(AdP s t _ m b3).mono ?_;rintro e w3 ⟨rfl,ad⟩;have G:=U (k.out.trans (ad.mono k.out.size));clear ad k;go_wp2_with fail;refine(Al1 t (Ap s) out a' _ b5 b6 b4 b1).mono ?_;rintro e ce ⟨v4,rfl,bl,bs⟩;have b7:=U (Iv bl G.out.size);have b8:=U (G.out.trans (bs.mono G.out.size));clear bl bs G;go_wp2;go_ret2;exact⟨_,rfl,b7.out,b8.out⟩
def T7(s S:ByteArray)(w:World)(bl:s.size<=140737488355328)(F:Hid (It s=S)):Calls prog 23 #[.string s] w λe w'=>e=.returned (.string S)/\Below w.heap.size w w':=by
 obtain⟨L,b⟩:∃L,BN (Ap s)=L:=⟨_,rfl⟩;have eu:Hid (L.length=s.size):=by unfold Hid;rw[<-b,QD,Be]
 have ac:Hid (strOfNums L=S):=by unfold Hid;rw[<-F.out,<-b];rfl
 have ad:=U b;clear b F;go_enter func23,ntmps23;go_wp2;go_loopw[3,4] (λt i wr=>∃(k:Nat) (T:ByteArray),k<=s.size/\i=.int .i64 k/\t=.string T/\T.size=k/\Hid (strOfNums (L.take k)=T)/\Hid (Below w.heap.size w wr)) (λ_ i _=>s.size-(intOf i).toNat)
 case atStart=>exact⟨0,ByteArray.mk #[],Au _,rfl,rfl,rfl,rfl,Al _ _⟩
 case round=>
  obtain⟨k,T,bs,rfl,rfl,am,cq,m⟩:=hrel;by_cases ee:k<s.size
  ·obtain⟨c,a9⟩:∃c:Int,(s[k].toNat:Int)=c:=⟨_,rfl⟩;have bt:0<=c:=O;have bv:c<=255:=Ru;obtain⟨y,q⟩:∃y,By c=y:=⟨_,rfl⟩;have cu:L.take (k+1)=L.take k++[y]:=by
    rw[<-ad.out,AdL _ k UI,Kt s k ee,a9,q]
   obtain⟨Y,c'⟩:∃Y,strOfNums [y]=Y:=⟨_,rfl⟩;have a':Y.size=1:=RB;have ba:=Mc wr #[.int .u8 y] [y] 1 rfl rfl;rw[c']at ba;have lg:Hid (strOfNums (L.take (k+1))=T++Y):=AhN;have lh:Hid ((T++Y).size=k+1):=by unfold Hid;rw[E6,a',am]
   have cx:=U (m.out.alloc m.out.size (.cells #[.int .u8 y] 5));have A:=U q;clear cu c' cq m q;rcases(show c<65\/(65<=c/\c<=90)\/(¬c<65/\90<c) by omega)with h|⟨bb,bc⟩|⟨bb,bc⟩
   ·have C:c=y:=by rw[<-A.out];unfold By;rw[V O]
    subst C;have bd:¬65<=c:=O;exact ZD
   ·have bx:IntKind.u8.wrap (c+32)=y:=by rw[<-A.out];unfold By;rw[N O,U8];omega
    exact ZD
   ·have C:c=y:=by rw[<-A.out];unfold By;rw[V O]
    subst C;have bd:¬c<=90:=O;have b0:65<=c:=O;exact ZD
  ·obtain rfl:k=s.size:=by omega
   have be:Hid (T=S):=by
    have G:=cq.out;rw[AO Pm]at G;unfold Hid;rw[<-G,ac.out]
   clear cq;go_wp2;go_ret;exact⟨by rw[<-be.out];rfl,m.out⟩
def OX(p:Option Addr)(n cap:Nat)(l:List Int)(B:Bool)(w:World)(c:Aq w p l)(bx:Hid (l.length=n))(m:n<=17592186043904)(ef:Hid (D5 l=B)):Calls prog 58 #[.slice p n cap] w λe w'=>e=.returned (.bool B)/\w'=w:=by
 have dG:=U c;clear c;go_enter func58,ntmps58;exact AAO
def AfQ(p:Option Addr)(n cap:Nat)(l X:List Int)(ad:Int)(S:ByteArray)(w:World)(bd:Aq w p l)(bx:Hid (l.length=n))(C:n<=17592186043904)(cr:Hid (AE l=(X,ad)))(h:Hid (strOfNums X=S)):Calls prog 49 #[.slice p n cap] w (P2 S ad w):=by
 have A:=U bd;clear bd;by_cases bl:n=0
 ·have bs:l=[]:=Bw Zc;have c:=cr.out;rw[bs,AdA]at c;injection c with m q;subst m;subst q;have c6:Hid (S=ByteArray.mk #[]):=h.out.symm;subst bl;clear cr h;go_enter func49,ntmps49;go_wp2;exact Rs
 have eQ:l≠[]:=λe=>bl Y';have b9:((n:Int)==0)=false:=Ae;cases em:D5 l with
 | true =>
  have F:=U em;have be:Hid (Fv l=(X,ad)):=Axn;clear cr em eQ;go_enter func49,ntmps49;go_wp2_with fail;refine(OX p n cap l true _ A.out bx C F).mono ?_;rintro e w1 ⟨rfl,rfl⟩;go_wp2;go_loopw[4,16] (λt i wr=>∃(k:Nat) (T:ByteArray),k<=n/\i=.int .i64 k/\t=.string T/\T.size=k/\Hid (strOfNums (l.take k)=T)/\Hid (Below w1.heap.size w1 wr)) (λ_ i _=>n-(intOf i).toNat)
  case atStart=>exact⟨0,ByteArray.mk #[],Au _,rfl,rfl,rfl,rfl,Al _ _⟩
  case round=>
   obtain⟨k,T,b',rfl,rfl,s,cq,G⟩:=hrel;by_cases bt:k<n
   ·have ac:k<l.length:=by rw[bx.out];exact bt
    obtain⟨b,ff,rfl,bv⟩:=(A.out.below G.out) k ac;obtain⟨x,am⟩:∃x,l.getD k 0=x:=⟨_,rfl⟩;obtain⟨b0,b1⟩:=VF F.out ac;rw[am]at bv b0 b1;have ca:IntKind.u8.wrap x=x:=LR;have cu:l.take (k+1)=l.take k++[x]:=by rw[C4 l k ac,am]
    obtain⟨Y,c'⟩:∃Y,strOfNums [x]=Y:=⟨_,rfl⟩;have b2:Y.size=1:=RB;have b3:=Mc wr #[.int .u8 x] [x] 1 rfl rfl;rw[c']at b3;have lg:Hid (strOfNums (l.take (k+1))=T++Y):=AhN;have lh:Hid ((T++Y).size=k+1):=by unfold Hid;rw[E6,b2,s]
    have cx:=U (G.out.alloc G.out.size (.cells #[.int .u8 x] 5));clear cu c' cq G am ac;exact ZD
   ·obtain rfl:k=n:=by omega
    have b4:Hid (strOfNums l=T):=by
     have b5:=cq.out;rwa[AO H6]at b5
    have c:=be.out;unfold Fv at c;rw[bx.out]at c;clear cq be;by_cases L:63<k
    ·rw[N L]at c;injection c with m q;subst m;subst q;have c6:Hid (S=ByteArray.mk #[]):=h.out.symm;have a9:=U G.out;have b6:63<T.size:=O;clear h;go_wp2;go_ret2;exact⟨ZW,a9.out⟩
    ·rw[V L]at c;injection c with m q;subst m;subst q;have c6:Hid (T=S):=by unfold Hid;rw[<-b4.out,h.out]
     have a9:=U G.out;have b6:¬63<T.size:=O;clear h;go_wp2;go_ret2;exact⟨by rw[<-c6.out];rfl,a9.out⟩
 | false =>
  have F:=U em;obtain⟨Y,f,c'⟩:∃Y f,Dk l=(Y,f):=⟨_,_,rfl⟩;obtain⟨T,s⟩:∃T,strOfNums Y=T:=⟨_,rfl⟩;have a':=U c';have ba:=U s;have cb:T.size<=4096:=by rw[<-s,Et];exact(Td c').2
  by_cases bb:f=0
  ·subst bb;have c:=cr.out;rw[Ady eQ em c']at c;unfold Fv at c;have bc:(FX++Y).length=4+T.size:=by rw[<-s,Et];simp[FX];omega
   rw[bc]at c;have b7:Hid (ByteArray.mk #[120,110,45,45]++T=strOfNums (FX++Y)):=by unfold Hid;rw[<-s];exact Ahd Y
   have cc:Hid ((ByteArray.mk #[120,110,45,45]++T).size=4+T.size):=Ah2;have cd:(ByteArray.mk #[120,110,45,45]).size=4:=rfl;by_cases L:63<4+T.size
   ·rw[N L]at c;injection c with m q;subst m;subst q;have c6:Hid (S=ByteArray.mk #[]):=h.out.symm;have b8:(63:Int)<4+(T.size:Int):=O;have ce:(63:Int)<((4+T.size:Nat):Int):=O;clear cr em eQ c' s h bc;go_enter func49,ntmps49;go_wp2_with fail;refine(OX p n cap l false _ A.out bx C F).mono ?_;rintro e w1 ⟨rfl,rfl⟩;go_wp2_with fail;refine(XW p n cap l Y 0 T _ A.out bx C a' ba).mono ?_;exact Z7
   ·rw[V L]at c;injection c with m q;subst q;have c6:Hid (ByteArray.mk #[120,110,45,45]++T=S):=by
     unfold Hid;rw[<-h.out,<-m];exact b7.out
    have b8:¬(63:Int)<4+(T.size:Int):=O;clear cr em eQ c' s h bc m;go_enter func49,ntmps49;go_wp2_with fail;refine(OX p n cap l false _ A.out bx C F).mono ?_;rintro e w1 ⟨rfl,rfl⟩;go_wp2_with fail;refine(XW p n cap l Y 0 T _ A.out bx C a' ba).mono ?_;exact Awc
  ·have c:=cr.out;rw[Adz eQ em c' bb]at c;injection c with m q;subst m;subst q;have c6:Hid (S=ByteArray.mk #[]):=h.out.symm;have cf:(f !=0)=true:=by simp[bb]
   clear cr em eQ c' s h;go_enter func49,ntmps49;go_wp2_with fail;refine(OX p n cap l false _ A.out bx C F).mono ?_;rintro e w1 ⟨rfl,rfl⟩;go_wp2_with fail;refine(XW p n cap l Y f T _ A.out bx C a' ba).mono ?_;exact Z7
end Go.Proofs.YtblcoicaeeiojaaGreatDoor
