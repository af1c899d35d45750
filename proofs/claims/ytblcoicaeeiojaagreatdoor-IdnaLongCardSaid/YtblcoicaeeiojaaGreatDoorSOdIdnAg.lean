/- The laws of idna: agrees -/
import Derived.Test.YtblcoicaeeiojaaGreatDoorSOdPmIdnRB
import Derived.Test.YtblcoicaeeiojaaGreatDoorSOdIdnFix
import Derived.Test.YtblcoicaeeiojaaGreatDoorSOaSameS
set_option linter.all false
set_option maxHeartbeats 8000000
set_option maxRecDepth 100000
open Go.Proofs.Tryz
namespace Go.Proofs.YtblcoicaeeiojaaGreatDoor
open Go.RowKit
def Ol(x:TV)(T:Y)(s:ByteArray)(w:World)(b9:Ah w x T)(b4:Du x)(b':Bi w)(bs:s.size<=140737488355328):Calls prog 13 #[x.agg,.string s] w (Ar (.bool true) w):=by
 obtain⟨bc,be,bl,bt⟩:∃bc be bl,Hid (A9 T s.data.toList=(bc,be,bl)):=⟨_,_,_,rfl⟩;obtain⟨A,bv,bx,ca⟩:∃A K E,Hid (Bf T s.data.toList=(A,K,E)):=⟨_,_,_,rfl⟩;obtain⟨b5,b0,b1,cb⟩:∃A K E,Hid (JF T s.data.toList=(A,K,E)):=⟨_,_,_,rfl⟩;obtain⟨b2,cc⟩:∃X,Hid (strOfNums A=X):=⟨_,rfl⟩;obtain⟨b3,cd⟩:∃X,Hid ((Cl b5).1=X):=⟨_,rfl⟩;have ac:=U (Am.new b9);have b6:=U b';have b7:=bs;clear b9 b';simp only[TV.agg];go_enter func13,ntmps13;obtain⟨⟨b,c,m,q,C,F⟩,⟨G,L,am,a9,a',ba⟩⟩:=ac.out.box.load;go_wp2_with fail;refine(Wz x T s bc be bl _ ac.out.tab (b6.out.below ac.out.ab) b7 bt).mono ?_;rintro e w1 ⟨co,ce,cp,rfl,cf,cg,cy,cA,ad⟩;replace ac:=U (ac.out.step ad);have bb:=U cf;have ci:=U cg;clear cf cg ad b c m q C F G L am a9 a' ba;obtain⟨⟨b,c,m,q,C,F⟩,⟨G,L,am,a9,a',ba⟩⟩:=ac.out.box.load;go_wp2_with fail;refine(QY x T s bc be bl _ ac.out.tab b4 bs bt).mono ?_;rintro e w2 ⟨cq,cr,cs,rfl,cj,cl,cB,cC,ad⟩;replace ac:=U (ac.out.step ad);replace bb:=U (bb.out.below ad);have bd:=U cj;have ct:=U cl;clear cj cl ad b c m q C F G L am a9 a' ba;obtain⟨⟨b,c,m,q,C,F⟩,⟨G,L,am,a9,a',ba⟩⟩:=ac.out.box.load;go_wp2_with fail;refine(Mj x T s b2 A bv bx _ ac.out.tab (b6.out.below ac.out.ab) b7 ca cc).mono ?_;rintro e w3 ⟨rfl,ad⟩;replace ac:=U (ac.out.step ad);replace bb:=U (bb.out.below ad);replace bd:=U (bd.out.below ad);clear ad b c m q C F G L am a9 a' ba;obtain⟨⟨b,c,m,q,C,F⟩,⟨G,L,am,a9,a',ba⟩⟩:=ac.out.box.load;go_wp2_with fail;refine(Uc x T s b2 A bv bx _ ac.out.tab b4 bs ca cc).mono ?_;rintro e cD ⟨rfl,ad⟩;replace ac:=U (ac.out.step ad);replace bb:=U (bb.out.below ad);replace bd:=U (bd.out.below ad);clear ad b c m q C F G L am a9 a' ba;obtain⟨⟨b,c,m,q,C,F⟩,⟨G,L,am,a9,a',ba⟩⟩:=ac.out.box.load;go_wp2_with fail;refine(Aoj x T s b3 b5 b0 b1 _ ac.out.tab (b6.out.below ac.out.ab) b7 cb cd).mono ?_;rintro e cF ⟨rfl,ad⟩;replace ac:=U (ac.out.step ad);replace bb:=U (bb.out.below ad);replace bd:=U (bd.out.below ad);clear ad b c m q C F G L am a9 a' ba;obtain⟨⟨b,c,m,q,C,F⟩,⟨G,L,am,a9,a',ba⟩⟩:=ac.out.box.load;go_wp2_with fail;refine(As' x T s b3 b5 b0 b1 _ ac.out.tab b4 bs cb cd).mono ?_;rintro e w6 ⟨rfl,ad⟩;replace ac:=U (ac.out.step ad);replace bb:=U (bb.out.below ad);replace bd:=U (bd.out.below ad);clear ad b c m q C F G L am a9 a' ba;have cI:(b2.toList==b2.toList)=true:=J;have cO:(b3.toList==b3.toList)=true:=J;have c2:((be:Int)==(be:Int))=true:=J;have c3:(bl==bl)=true:=J;have c4:((bv:Int)==(bv:Int))=true:=J;have c5:(bx==bx)=true:=J;have c6:((b0:Int)==(b0:Int))=true:=J;have c7:(b1==b1)=true:=J;have cu:Hid (∀k,k<ce->(bc.getD k []).length<=maxLen):=λk cv=>by
  have cx:k<bc.length:=by rw[ci.out];exact cv
  obtain⟨l,cm⟩:∃l,bc.getD k []=l:=⟨_,rfl⟩;have b8:l∈bc:=by rw[<-cm];simp[List.getD,cx]
  rw[cm];by_cases h:(A9 T s.data.toList).2.2=0
  ·have:=(OR h).2.2.2.2.1;rw[bt.out]at this;have:=(CN (MB (this l b8)).1).2.1;exact BQ
  ·have:=Ae6 h;rw[bt.out]at this;simp only at this;rw[this]at b8;cases b8
 go_wp2_with fail;refine(Ati co cq cp cs ce cr bc _ bb.out bd.out ci ct BQ cu).mono ?_;rintro e c8 ⟨rfl,ad⟩;exact AAM
end Go.Proofs.YtblcoicaeeiojaaGreatDoor
