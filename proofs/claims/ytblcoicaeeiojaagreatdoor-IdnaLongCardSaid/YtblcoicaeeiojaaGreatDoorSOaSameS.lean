/- keep.Same at string, kee -/
import Derived.Test.YtblcoicaeeiojaaGreatDoorSOaPmRefB
set_option linter.all false
set_option maxHeartbeats 1000000
open Go.Proofs.Tryz
namespace Go.Proofs.YtblcoicaeeiojaaGreatDoor
open Go.RowKit
def Atj(p q:Option Addr)(c d n m:Nat)(xs:List Int)(w:World)(s:Aq w p xs)(A:Aq w q xs)(C:Hid (xs.length=n))(F:Hid (xs.length=m))(bb:n<=9223372036854775807):Calls prog 64 #[.slice p n c,.slice q m d] w λe w'=>e=.returned (.bool true)/\∃z,w'=w.drewN z:=by
 have e:=C.out.symm.trans F.out;subst e;clear F;have ad:=U s;have am:=U A;have bc:((n:Int) !=(n:Int))=false:=J;clear s A;go_enter func64,ntmps64;go_wp2;go_loopw[13] (λi wr=>∃k:Nat,k<=n/\i=.int .i64 k/\∃z,wr=w.drewN z) (λi _=>n-(intOf i).toNat)
 case atStart=>exact⟨0,Au _,rfl,0,rfl⟩
 case round=>
  obtain⟨k,bd,rfl,z,b⟩:=hrel;have G:Below w.heap.size w wr:=by rw[b];exact EO (Al _ _) z
  have L:=U b;clear b;by_cases a9:k<n
  ·have h:k<xs.length:=by rw[C.out];exact a9
   obtain⟨be,bl,rfl,a'⟩:=(ad.out.below G) k h;obtain⟨bs,bt,rfl,ba⟩:=(am.out.below G) k h;obtain⟨x,ac⟩:∃x,xs.getD k 0=x:=⟨_,rfl⟩;rw[ac]at a' ba;have bv:(x !=x)=false:=J;clear ac h;go_wp2;go_quiet (fail);go_wp2;go_roundw
   case rel=>exact⟨k+1,O,An,_,by rw[L.out,World.drewN_drewN]⟩
   case measure=>simp[intOf];omega
  ·obtain rfl:k=n:=by omega
   go_wp2;go_ret;exact⟨rfl,z,L.out⟩
theorem BE.drewN{t:IntKind}{w:World}{p:Option Addr}{ao:List Int}(h:BE t w p ao)(m:Nat):BE t (w.drewN m) p ao:=h.below (EO (Al _ _) m)
def Ati(p q:Option Addr)(c d n m:Nat)(L:List (List Int))(w:World)(ac:Ey w p L)(ad:Ey w q L)(am:Hid (L.length=n))(a9:Hid (L.length=m))(bd:n<=maxLen)(be:Hid (∀k,k<n->(L.getD k []).length<=maxLen)):Calls prog 41 #[.slice p n c,.slice q m d] w λe w'=>e=.returned (.bool true)/\Below w.heap.size w w':=by
 unfold maxLen at bd;have e:=am.out.symm.trans a9.out;subst e;clear a9;have bl:=U ac;have bs:=U ad;have b5:((n:Int) !=(n:Int))=false:=J;clear ac ad;go_enter func41,ntmps41;go_wp2;go_loopw[13] (λi wr=>∃k:Nat,k<=n/\i=.int .i64 k/\Below w.heap.size w wr) (λi _=>n-(intOf i).toNat)
 case atStart=>exact⟨0,Au _,rfl,Al _ _⟩
 case round=>
  obtain⟨k,b6,rfl,h⟩:=hrel;by_cases a':k<n
  ·have A:k<L.length:=by rw[am.out];exact a'
   obtain⟨b7,b8,bt,bv,rfl,ba,_,C⟩:=(bl.out.below h) k A;obtain⟨b9,b',bx,b0,rfl,bb,_,F⟩:=(bs.out.below h) k A;obtain⟨x,G⟩:∃x,L.getD k []=x:=⟨_,rfl⟩;rw[G]at ba bb C F;obtain⟨b,s⟩:∃b,x.length=b:=⟨_,rfl⟩;rw[s]at ba bb;have b1:=U C;have b2:=U F;have bc:=U s;have b3:Hid (x.length<=maxLen):=by rw[<-G];exact be.out k a'
   have b4:b<=9223372036854775807:=by have:=b3.out;rw[s]at this;exact this
   clear G A C F s;go_wp2;go_quiet ((go_at_call 64;exact Calls.quiet_of (Atj bt bx bv b0 b b x _ (b1.out.drewN _) (b2.out.drewN _) bc bc b4)));go_wp2;go_roundw
   case rel=>exact⟨k+1,O,An,EO h _⟩
   case measure=>simp[intOf];omega
  ·obtain rfl:k=n:=by omega
   go_wp2;go_ret;exact⟨rfl,h⟩
end Go.Proofs.YtblcoicaeeiojaaGreatDoor
