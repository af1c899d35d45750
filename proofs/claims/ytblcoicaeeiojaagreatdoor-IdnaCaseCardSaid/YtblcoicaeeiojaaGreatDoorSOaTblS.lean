/- Properties of a code poi -/
import Derived.Test.YtblcoicaeeiojaaGreatDoorSOaPmBidFact
set_option linter.all false
set_option maxHeartbeats 8000000
open Go.Proofs.Tryz
namespace Go.Proofs.YtblcoicaeeiojaaGreatDoor
open Go.RowKit
def AdO{c:Int}(h:c<=127):Cg c=false:=AwQ
def AdN{c:Int}(h:c<=127):ED c=false:=by
 cases b:ED c with
 | false=>rfl
 | true=>have:=Lq.1 b;omega
def XY{c:Int}(b:0<=c)(e:c<=127):Bz c=true:=GA.2 (.inl ⟨e,b⟩)
def Ar'{c:Int}(h:Cg c=true):Bz c=true:=by have:=JD.1 h;exact GA.2 O
def Ar_{c:Int}(h:ED c=true):Bz c=true:=by have:=Lq.1 h;exact GA.2 O
def ArR(x:TV)(T:Y)(c z:Int)(w:World)(A:Ah w x T)(G:BA T.cat=true)(m:Hid (Jj T c=z)):Calls prog 96 #[x.agg,.int .i64 c] w (Ar (.int .i64 z) w):=by
 have ac:=U (Am.new A);have k:=ac.out.aP;have C:Bz c=true->z=Fs c:=λh=>by rw[<-m.out,Jj,MC G h];rfl
 have F:=U C;clear A C;simp only[TV.agg];have L:(c<0\/127<c)\/((97<=c/\c<=122)\/(65<=c/\c<=90)\/(48<=c/\c<=57)\/(0<=c/\c<=31)\/(127<=c/\c<=127)\/(32<=c/\c<=32)\/(33<=c/\c<=44)\/(45<=c/\c<=45)\/(46<=c/\c<=46)\/(47<=c/\c<=47)\/(58<=c/\c<=64)\/(91<=c/\c<=96)\/(123<=c/\c<=126)):=O;rcases L with cO|cO
 ·have am:Hid ((val T.cat c).getD (Fs c)=z):=m;obtain⟨S,eF⟩:∃b,Hid (Cg c=b):=⟨_,rfl⟩;obtain⟨c7,fJ⟩:∃b,Hid (ED c=b):=⟨_,rfl⟩;have bv:Hid (S=false->c7=false->(val T.cat c).getD 0=z):=by
   intro a9 a';rw[<-m.out,Jj];have:Fs c=0:=by
    have q:=eF.out;have s:=fJ.out;subst a9;subst a';unfold Fs;rw[V (by simp[F_,GZ,q,s];omega),V KQ,V O,V O,V O]
   rw[this]
  have fh:Hid (S=true\/c7=true->z=1):=by
   intro h;have ba:Bz c=true:=Awk;rw[F.out ba];have q:=eF.out;have s:=fJ.out;rcases h with h|h
   ·subst h;unfold Fs;rw[N (by simp[q])]
   ·subst h;unfold Fs;rw[N (by simp[s])]
  clear am;rcases cO with cO|cO
  ·clear k;have k:=ac.out.aP;have d':decide (97<=c)=false:=Ae;have bt:decide (65<=c)=false:=Ae;have bd:decide (48<=c)=false:=Ae;have ct:decide (0<=c)=false:=Ae;have eZ:c<=122:=O;have fl:c<=90:=O;have hK:c<=57:=O;have im:c<32:=O;have il:c<127:=O;have ik:decide (32<c)=false:=Ae;exact AzZ
  ·clear k;have k:=ac.out.aP;have d':97<=c:=O;have bt:65<=c:=O;have bd:48<=c:=O;have ct:0<=c:=O;have eZ:decide (c<=122)=false:=Ae;have fl:decide (c<=90)=false:=Ae;have hK:decide (c<=57)=false:=Ae;have im:decide (c<32)=false:=Ae;have il:decide (c<127)=false:=Ae;have ik:32<c:=O;exact AzZ
 ·have o7:Hid (Cg c=false):=AdO O;have o8:Hid (ED c=false):=AdN O;have iI:=U (F.out (XY O O));rcases cO with cO|cO|cO|cO|cO|cO|cO|cO|cO|cO|cO|cO|cO
  ·have dx:Hid (z=1):=Azu;have d':97<=c:=O;have bt:65<=c:=O;have bd:48<=c:=O;have ct:0<=c:=O;have eZ:c<=122:=O;have fl:decide (c<=90)=false:=Ae;exact Ax2
  ·have dx:Hid (z=1):=Azu;have d':decide (97<=c)=false:=Ae;have bt:65<=c:=O;have bd:48<=c:=O;have ct:0<=c:=O;have eZ:c<=122:=O;have fl:c<=90:=O;exact Ax2
  ·have dx:Hid (z=3):=by
    unfold Hid;rw[iI.out];unfold Fs;rw[V ZB,N KQ]
   have d':decide (97<=c)=false:=Ae;have bt:decide (65<=c)=false:=Ae;have bd:48<=c:=O;have ct:0<=c:=O;have eZ:c<=122:=O;have fl:c<=90:=O;have hK:c<=57:=O;exact Aiu
  ·have dx:Hid (z=8):=Azd;have d':decide (97<=c)=false:=Ae;have bt:decide (65<=c)=false:=Ae;have bd:decide (48<=c)=false:=Ae;have ct:0<=c:=O;have eZ:c<=122:=O;have fl:c<=90:=O;have hK:c<=57:=O;have im:c<32:=O;have il:c<127:=O;have ik:decide (32<c)=false:=Ae;exact Ajg
  ·have dx:Hid (z=8):=Azd;have d':97<=c:=O;have bt:65<=c:=O;have bd:48<=c:=O;have ct:0<=c:=O;have eZ:decide (c<=122)=false:=Ae;have fl:decide (c<=90)=false:=Ae;have hK:decide (c<=57)=false:=Ae;have im:decide (c<32)=false:=Ae;have il:decide (c<127)=false:=Ae;have ik:32<c:=O;have j8:(c==127)=true:=Ae;have j9:(c==32)=false:=Ae;exact Ah7
  ·have dx:Hid (z=7):=by
    unfold Hid;rw[iI.out];unfold Fs;rw[V ZB,V KQ,V O,N O]
   have d':decide (97<=c)=false:=Ae;have bt:decide (65<=c)=false:=Ae;have bd:decide (48<=c)=false:=Ae;have ct:0<=c:=O;have eZ:c<=122:=O;have fl:c<=90:=O;have hK:c<=57:=O;have im:decide (c<32)=false:=Ae;have il:c<127:=O;have ik:decide (32<c)=false:=Ae;have j8:(c==127)=false:=Ae;have j9:(c==32)=true:=Ae;exact Ah7
  ·exact Z2
  ·exact Z2
  ·exact Z2
  ·exact Z2
  ·have dx:Hid (z=5):=ZA;have d':decide (97<=c)=false:=Ae;have bt:decide (65<=c)=false:=Ae;have bd:48<=c:=O;have ct:0<=c:=O;have eZ:c<=122:=O;have fl:c<=90:=O;have hK:decide (c<=57)=false:=Ae;exact Aiu
  ·have dx:Hid (z=5):=ZA;have d':decide (97<=c)=false:=Ae;have bt:65<=c:=O;have bd:48<=c:=O;have ct:0<=c:=O;have eZ:c<=122:=O;exact AAp
  ·have dx:Hid (z=5):=ZA;have d':97<=c:=O;have bt:65<=c:=O;have bd:48<=c:=O;have ct:0<=c:=O;have eZ:decide (c<=122)=false:=Ae;exact AAp
def Af1(x:TV)(T:Y)(c z:Int)(w:World)(A:Ah w x T)(G:BA T.aj=true)(s:Hid (Ep T c=z)):Calls prog 190 #[x.agg,.int .i64 c] w (Ar (.int .i64 z) w):=by
 have ac:=U (Am.new A);have k:=ac.out.aR;have C:Bz c=true->z=Gt c:=λh=>by rw[<-s.out,Ep,MC G h];rfl
 have F:=U C;clear A C;simp only[TV.agg];have L:(c<0\/127<c)\/((97<=c/\c<=122)\/(65<=c/\c<=90)\/(48<=c/\c<=57)\/(0<=c/\c<=31)\/(127<=c/\c<=127)\/(32<=c/\c<=32)\/(33<=c/\c<=44)\/(45<=c/\c<=45)\/(46<=c/\c<=46)\/(47<=c/\c<=47)\/(58<=c/\c<=64)\/(91<=c/\c<=96)\/(123<=c/\c<=126)):=O;rcases L with cO|cO
 ·have am:Hid ((val T.aj c).getD (Gt c)=z):=s;obtain⟨S,eF⟩:∃b,Hid (Cg c=b):=⟨_,rfl⟩;obtain⟨c7,fJ⟩:∃b,Hid (ED c=b):=⟨_,rfl⟩;have bv:Hid (S=false->c7=false->(val T.aj c).getD 0=z):=by
   intro a9 a';rw[<-s.out,Ep];have:Gt c=0:=by
    have m:=eF.out;have q:=fJ.out;subst a9;subst a';unfold Gt;rw[V I5,V O,V (by simp[m,q])]
   rw[this]
  have fh:Hid (S=true\/c7=true->z=9):=by
   intro h;have ba:Bz c=true:=Awk;rw[F.out ba];have m:=eF.out;have q:=fJ.out;rcases h with h|h
   ·subst h;have:=JD.1 m;unfold Gt;rw[V I5,V O,N (by simp[m])]
   ·subst h;have:=Lq.1 q;unfold Gt;rw[V I5,V O,N (by simp[q])]
  clear am;rcases cO with cO|cO
  ·clear k;have k:=ac.out.aR;have d':decide (97<=c)=false:=Ae;have bt:decide (65<=c)=false:=Ae;have bd:decide (0<=c)=false:=Ae;have ct:c<=122:=O;have eZ:c<=90:=O;have fl:c<=127:=O;exact Az5
  ·clear k;have k:=ac.out.aR;have d':97<=c:=O;have bt:65<=c:=O;have bd:0<=c:=O;have ct:decide (c<=122)=false:=Ae;have eZ:decide (c<=90)=false:=Ae;have fl:decide (c<=127)=false:=Ae;exact Az5
 ·have bb:Hid (Cg c=false):=AdO O;have bc:Hid (ED c=false):=AdN O;have iI:=U (F.out (XY O O));rcases cO with cO|cO|cO|cO|cO|cO|cO|cO|cO|cO|cO|cO|cO
  ·have dx:Hid (z=3):=Azv;have d':97<=c:=O;exact AAd
  ·have dx:Hid (z=3):=Azv;have d':decide (97<=c)=false:=Ae;have bt:65<=c:=O;have bd:0<=c:=O;have ct:c<=122:=O;have eZ:c<=90:=O;exact Ais
  ·exact N5
  ·exact N5
  ·exact Az4
  ·exact N5
  ·exact N5
  ·exact N5
  ·exact N5
  ·exact N5
  ·exact N5
  ·have dx:Hid (z=1):=Aiz;have d':decide (97<=c)=false:=Ae;exact AAd
  ·exact Az4
def XU(x:TV)(T:Y)(c z:Int)(w:World)(b:Ah w x T)(s:BA T.ak=true)(m:Hid (B_ T c=z)):Calls prog 100 #[x.agg,.int .i64 c] w (Ar (.int .i64 z) w):=by
 have ac:=U (Am.new b);have k:=ac.out.aQ;have q:Bz c=true->z=FO c:=λh=>by rw[<-m.out,B_,MC s h];rfl
 have A:=U q;clear b q;simp only[TV.agg];have C:(c<0\/127<c)\/((97<=c/\c<=122)\/(65<=c/\c<=90)\/(48<=c/\c<=57)\/(0<=c/\c<=31)\/(127<=c/\c<=127)\/(32<=c/\c<=32)\/(33<=c/\c<=44)\/(45<=c/\c<=45)\/(46<=c/\c<=46)\/(47<=c/\c<=47)\/(58<=c/\c<=64)\/(91<=c/\c<=96)\/(123<=c/\c<=126)):=O;rcases C with cO|cO
 ·have bv:Hid ((val T.ak c).getD 0=z):=by
   unfold Hid;rw[<-m.out,B_];have:FO c=0:=by
    unfold FO;rw[V I5,V KQ,V O,V O,V O,V O]
   rw[this]
  rcases cO with cO|cO
  ·clear k;have k:=ac.out.aQ;have d':decide (97<=c)=false:=Ae;have bt:decide (65<=c)=false:=Ae;have bd:decide (48<=c)=false:=Ae;have ct:decide (0<=c)=false:=Ae;have eZ:c<=122:=O;have fl:c<=90:=O;have hK:c<=57:=O;have im:c<=32:=O;have il:c<127:=O;have ik:decide (32<c)=false:=Ae;exact Ax9
  ·clear k;have k:=ac.out.aQ;have d':97<=c:=O;have bt:65<=c:=O;have bd:48<=c:=O;have ct:0<=c:=O;have eZ:decide (c<=122)=false:=Ae;have fl:decide (c<=90)=false:=Ae;have hK:decide (c<=57)=false:=Ae;have im:decide (c<=32)=false:=Ae;have il:decide (c<127)=false:=Ae;have ik:32<c:=O;exact Ax9
 ·have iI:=U (A.out (XY O O));rcases cO with cO|cO|cO|cO|cO|cO|cO|cO|cO|cO|cO|cO|cO
  ·have dx:Hid (z=0):=Azw;have d':97<=c:=O;exact Az6
  ·have dx:Hid (z=0):=Azw;have d':decide (97<=c)=false:=Ae;have bt:65<=c:=O;exact AAF
  ·have dx:Hid (z=4):=by
    unfold Hid;rw[iI.out];unfold FO;rw[V I5,N KQ]
   have d':decide (97<=c)=false:=Ae;have bt:decide (65<=c)=false:=Ae;have bd:48<=c:=O;exact AAG
  ·exact AzS
  ·have dx:Hid (z=11):=Ays;have d':97<=c:=O;have bt:65<=c:=O;have bd:48<=c:=O;have ct:0<=c:=O;have eZ:decide (c<=122)=false:=Ae;have fl:decide (c<=90)=false:=Ae;have hK:decide (c<=57)=false:=Ae;have im:decide (c<=32)=false:=Ae;have il:decide (c<127)=false:=Ae;have ik:32<c:=O;have j8:(c==45)=false:=Ae;have j9:(c==46)=false:=Ae;have o9:(c==127)=true:=Ae;exact AxJ
  ·exact AzS
  ·exact AzY
  ·have dx:Hid (z=5):=by
    unfold Hid;rw[iI.out];unfold FO;rw[V I5,V KQ,N O]
   have d':decide (97<=c)=false:=Ae;have bt:decide (65<=c)=false:=Ae;have bd:decide (48<=c)=false:=Ae;have ct:0<=c:=O;have eZ:c<=122:=O;have fl:c<=90:=O;have hK:c<=57:=O;have im:decide (c<=32)=false:=Ae;have il:c<127:=O;have ik:32<c:=O;have j8:(c==45)=true:=Ae;have j9:(c==46)=false:=Ae;exact Ajn
  ·have dx:Hid (z=6):=by
    unfold Hid;rw[iI.out];unfold FO;rw[V I5,V KQ,V O,N O]
   have d':decide (97<=c)=false:=Ae;have bt:decide (65<=c)=false:=Ae;have bd:decide (48<=c)=false:=Ae;have ct:0<=c:=O;have eZ:c<=122:=O;have fl:c<=90:=O;have hK:c<=57:=O;have im:decide (c<=32)=false:=Ae;have il:c<127:=O;have ik:32<c:=O;have j8:(c==45)=false:=Ae;have j9:(c==46)=true:=Ae;exact Ajn
  ·exact AzY
  ·have dx:Hid (z=8):=ZC;have d':decide (97<=c)=false:=Ae;have bt:decide (65<=c)=false:=Ae;exact AAF
  ·have dx:Hid (z=8):=ZC;have d':decide (97<=c)=false:=Ae;exact Az6
  ·have dx:Hid (z=8):=ZC;have d':97<=c:=O;have bt:65<=c:=O;have bd:48<=c:=O;have ct:0<=c:=O;have eZ:decide (c<=122)=false:=Ae;have fl:decide (c<=90)=false:=Ae;exact Az9
end Go.Proofs.YtblcoicaeeiojaaGreatDoor
