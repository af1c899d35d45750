/- keep.Raw: a string of at -/
import Derived.Test.YtblcoicaeeiojaaGreatDoorSOaPmMapSpec
import Derived.Deep.CutBlock
set_option linter.all false
set_option maxHeartbeats 4000000
set_option maxRecDepth 100000
open Go.Proofs.Tryz
namespace Go.Proofs.YtblcoicaeeiojaaGreatDoor
open Go.RowKit
def AjN(w:World)(e:Ending)(w':World):Prop:=∃S:ByteArray,e=.returned (.string S)/\S.size<=90/\Below w.heap.size w w'
def AcD(c:Int):(Cl [c]).1.size<=4:=by
 unfold Cl;rw[V J];split
 ·rw[Et];exact Oy [c]
 ·exact J
def Ao3(w:World)(b:Array Value)(L:List ByteArray)(t:TypeId)(h:b.toList=L.map Value.string):IJ (w.alloc (.cells b t)) (some ⟨w.heap.size,0,none⟩) L:=Azj
def XS:List ByteArray:=[.mk #[120,110,45,45,98,99,104,101,114,45,107,118,97],.mk #[88,78,45,45,97],.mk #[120,110,45,45],.mk #[120,110,45,45,97,98,99,45],.mk #[97,45,45,98],.mk #[45,97],.mk #[97,98,45,45,99],.mk #[120,110,45,45,109,103,98,97]]
def XT:List ByteArray:=[.mk #[195],.mk #[237,160,128],.mk #[],.mk #[65,45,98],.mk #[32],.mk #[226,128,141]]
def ArP:∀q,q<8->(XS.getD q ByteArray.empty).size<=13:=by decide +kernel
def ArQ:∀q,q<6->(XT.getD q ByteArray.empty).size<=13:=by decide +kernel
def Afs{w w':World}{g q:Nat}{c:Array Value}{L:List ByteArray}{t:TypeId}(m:g<w.heap.size)(h:c.toList=L.map Value.string)(s:q<L.length)(A:(w.alloc (.cells c t)).grownBy w' (some g)):w'.cell? ⟨w.heap.size,q,none⟩=some (.string (L.getD q ByteArray.empty)):=by
 obtain⟨b,ff,e,k⟩:=Ao3 w c L t h q s;cases e;rw[BY]at k;exact A.cell k (by intro e;cases e;exact absurd m (Nat.lt_irrefl _))
def Tu(p:Option Addr)(cap:Nat)(ao:List Int)(w:World)(b2:Aq w p ao)(cm:ao.length<=17592186043904):Calls prog 14 #[.slice p ao.length cap] w (AjN w):=by
 have co:=U b2;clear b2;obtain⟨cp,cq⟩:=DO ao 3 O;obtain⟨n,b3⟩:∃n:Nat,AZ ao 3=n:=⟨(AZ ao 3).toNat,O⟩;have cD:n<=2:=O;have cr:=U b3;clear cp cq b3;go_enter func14,ntmps14;go_wp2_with fail;refine(Wh p cap ao _ co.out cm).mono ?_;rintro e w1 ⟨g,rfl,dy,b4,b5⟩;have cs:=U b4;have b6:=U b5;clear b4 b5;go_wp2_with fail;refine(Da g ao 3 n _ cs.out O O cr).mono ?_;rintro e w2 ⟨rfl,b7,b8⟩;have b9:Below w.heap.size w w2:=b6.out.grown b8 b6.out.size Pu;have ct:=U b7;have cu:=U b9;clear b7 b9 b8;go_wp2;go_loopw[4,5] (λv m wr=>∃(k:Nat) (S:ByteArray) (r:List Int),k<=3/\m=.int .i64 k/\v=.string S/\S.size+30*k<=90/\Hid (Bd wr g r)/\Hid (Below w.heap.size w wr)) (λ_ m _=>(intOf m).toNat)
 case atStart=>exact⟨1+n,ByteArray.empty,ao.tail,O,An,rfl,Ae,ct,cu⟩
 case round=>
  obtain⟨k,S,r,cF,rfl,rfl,cI,b',bc⟩:=hrel;by_cases cO:0<k
  ·obtain⟨t,bs⟩:∃t,AZ r 8=t:=⟨_,rfl⟩;obtain⟨bt,bv⟩:=DO r 8 O;rw[bs]at bt bv;have ca:=U bs;clear bs;go_wp2_with fail;refine(Da g r 8 t _ b'.out O O ca).mono ?_;rintro e w3 ⟨rfl,cb,cc⟩;have cd:Below w.heap.size w w3:=bc.out.grown cc bc.out.size Pu;have a':=U cb;have f':=U cd;clear cb cc cd b' bc ca;go_upto_block 2 with(fail);go_cut[4] (λv ce=>∃(b:ByteArray) (r':List Int),v=.string b/\b.size<=S.size+20/\Hid (Bd ce g r')/\Hid (Below w.heap.size w ce))
   case first=>
    have cf:=a'.out.lt;by_cases bd:t=0
    ·subst bd;obtain⟨q,h⟩:∃q:Nat,AZ r.tail 8=q:=⟨(AZ r.tail 8).toNat,by have:=DO r.tail 8 O;omega⟩;have A:q<8:=by have:=DO r.tail 8 O;omega
     have C:=U h;obtain⟨X,G⟩:∃X,XS.getD q ByteArray.empty=X:=⟨_,rfl⟩;have cv:X.size<=13:=by rw[<-G];exact ArP q A
     have bx:=U G;clear h G;go_wp2_with fail;refine(Da g r.tail 8 q _ (a'.out.alloc _) O O C).mono ?_;rintro e eC ⟨rfl,i3,e8⟩;have b0:=Afs (L:=XS) cf rfl A e8;rw[bx.out]at b0;exact Azf
    ·have cx:(t==0)=false:=by simp[bd]
     by_cases be:t=1
     ·subst be;obtain⟨q,h⟩:∃q:Nat,AZ r.tail 6=q:=⟨(AZ r.tail 6).toNat,by have:=DO r.tail 6 O;omega⟩;have A:q<6:=by have:=DO r.tail 6 O;omega
      have C:=U h;obtain⟨X,G⟩:∃X,XT.getD q ByteArray.empty=X:=⟨_,rfl⟩;have cv:X.size<=13:=by rw[<-G];exact ArQ q A
      have bx:=U G;clear h G;go_wp2_with fail;refine(Da g r.tail 6 q _ (a'.out.alloc _) O O C).mono ?_;rintro e eC ⟨rfl,i3,e8⟩;have b0:=Afs (L:=XT) cf rfl A e8;rw[bx.out]at b0;exact Azf
     ·have cy:(t==1)=false:=by simp[be]
      by_cases cg:t=2\/t=3
      ·obtain⟨q,h⟩:∃q:Nat,AZ r.tail 4=q:=⟨(AZ r.tail 4).toNat,ZQ⟩;have A:q<4:=ZQ;have C:=U h;clear h cx cy bd be bt bv;rcases cg with rfl|rfl
       all_goals
        go_wp2_with fail;refine(Da g r.tail 4 q _ a'.out O O C).mono ?_;rintro e eC ⟨rfl,i3,e8⟩;have dM:Below w.heap.size w eC:=f'.out.grown e8 f'.out.size Pu;have kL:=U i3;have hN:=U dM;clear i3 e8 dM;go_wp2;go_loopw[4,6] (λv m wr=>∃(j:Nat) (b:ByteArray) (r:List Int),j<=4/\m=.int .i64 j/\v=.string b/\b.size+4*j<=S.size+20/\Hid (Bd wr g r)/\Hid (Below w.heap.size w wr)) (λ_ m _=>(intOf m).toNat)
        case atStart=>exact⟨1+q,S,r.tail.tail,O,An,rfl,O,kL,hN⟩
        case round=>
         obtain⟨j,b,r5,cA,rfl,rfl,cB,jR,fP⟩:=hrel;by_cases cC:0<j
         ·obtain⟨i,rfl⟩:∃i,j=i+1:=⟨j-1,O⟩;go_wp2_with fail;refine(Aro g r5 _ jR.out).mono ?_;rintro e w6 ⟨c,r6,rfl,_,ba,bb⟩;have ac:Below w.heap.size w w6:=fP.out.grown bb fP.out.size Pu;have l9:=U (ba.alloc (.cells #[.int .i64 c] 3));have l7:=U (ac.alloc ac.size (.cells #[.int .i64 c] 3));have l8:=U (CQ w6 #[.int .i64 c] [c] 3 rfl);have b1:=AcD c;obtain⟨s,am⟩:∃s,(Cl [c]).1=s:=⟨_,rfl⟩;obtain⟨F,hF⟩:∃s,(Cl [c]).2=s:=⟨_,rfl⟩;rw[am]at b1;have a9:=λW bl=>NK (some ⟨w6.heap.size,0,none⟩) 1 [c] W bl (by simp[maxLen]);rw[am,hF]at a9;have l_:=U a9;clear ba bb ac am hF jR fP a9;exact AxT
         ·exact AyF
      ·have c2:(t==2)=false:=by simp;omega
       have c3:(t==3)=false:=Ae;obtain⟨q,h⟩:∃q:Nat,AZ r.tail 5=q:=⟨(AZ r.tail 5).toNat,by have:=DO r.tail 5 O;omega⟩;have A:q<5:=by have:=DO r.tail 5 O;omega
       have C:=U h;clear h bd be cg bt bv;go_wp2_with fail;refine(Da g r.tail 5 q _ a'.out O O C).mono ?_;rintro e eC ⟨rfl,i3,e8⟩;have dM:Below w.heap.size w eC:=f'.out.grown e8 f'.out.size Pu;have kL:=U i3;have hN:=U dM;clear i3 e8 dM;go_wp2;go_loopw[4,9] (λv m wr=>∃(j:Nat) (b:ByteArray) (r:List Int),j<=5/\m=.int .i64 j/\v=.string b/\b.size+4*j<=S.size+20/\Hid (Bd wr g r)/\Hid (Below w.heap.size w wr)) (λ_ m _=>(intOf m).toNat)
       case atStart=>exact⟨1+q,S,r.tail.tail,O,An,rfl,O,kL,hN⟩
       case round=>
        obtain⟨j,b,r5,cA,rfl,rfl,cB,jR,fP⟩:=hrel;by_cases cC:0<j
        ·obtain⟨i,rfl⟩:∃i,j=i+1:=⟨j-1,O⟩;obtain⟨c,r6,ci⟩:∃c r',Hid (KI r5=(c,r')):=⟨_,_,rfl⟩;go_wp2_with fail;refine(Adq g r5 r6 c _ jR.out ci).mono ?_;rintro e w6 ⟨rfl,ba,bb⟩;have ac:Below w.heap.size w w6:=fP.out.grown bb fP.out.size Pu;have l9:=U (ba.alloc (.cells #[.int .i64 c] 3));have l7:=U (ac.alloc ac.size (.cells #[.int .i64 c] 3));have l8:=U (CQ w6 #[.int .i64 c] [c] 3 rfl);have b1:=AcD c;obtain⟨s,am⟩:∃s,(Cl [c]).1=s:=⟨_,rfl⟩;obtain⟨F,hF⟩:∃s,(Cl [c]).2=s:=⟨_,rfl⟩;rw[am]at b1;have a9:=λW bl=>NK (some ⟨w6.heap.size,0,none⟩) 1 [c] W bl (by simp[maxLen]);rw[am,hF]at a9;have l_:=U a9;clear ba bb ac am hF jR fP a9 ci;exact AxT
        ·exact AyF
   case rest=>
    obtain⟨b,r',rfl,c4,cj,cl⟩:=hcut;clear a' f';by_cases bl:1<k
    ·go_wp2;go_roundw
     case rel=>exact⟨k-1,_,r',O,An,rfl,by rw[E6,show (ByteArray.mk #[46]).size=1 from rfl];omega,cj,cl⟩
     case measure=>simp[intOf];omega
    ·obtain rfl:k=1:=by omega
     go_wp2;go_roundw
     case rel=>exact⟨0,b,r',O,An,rfl,O,cj,cl⟩
     case measure=>simp[intOf]
  ·obtain rfl:k=0:=by omega
   go_wp2;go_ret;exact⟨S,rfl,O,bc.out⟩
end Go.Proofs.YtblcoicaeeiojaaGreatDoor
