/- Capital letters among by -/
import Derived.Test.YtblcoicaeeiojaaGreatDoorSOaPmPunRow
set_option linter.all false
namespace Go.Proofs.YtblcoicaeeiojaaGreatDoor
open Go.RowKit
def L4(K:Nat)(X Y:List Int):Prop:=Y.length=X.length/\∀i,i<X.length->Y.getD i 0=X.getD i 0\/(K<=i/\97<=X.getD i 0/\X.getD i 0<=122/\Y.getD i 0=X.getD i 0-32)
def AkR{K:Nat}{X Y:List Int}(h:L4 K X Y){j:Nat}(b:K<=j)(c:97<=X.getD j 0)(k:X.getD j 0<=122):L4 K X (Y.set j (X.getD j 0-32)):=by
 refine⟨by simpa using h.1,λi dI=>?_⟩;by_cases e:j=i
 ·subst e;right;refine⟨b,c,k,?_⟩;rw[Cz,Vh (by rw[h.1];exact dI)];rfl
 ·have m:(Y.set j (X.getD j 0-32)).getD i 0=Y.getD i 0:=by
   rw[Cz,LY e,<-Cz]
  rw[m];exact h.2 i dI
def AkP{K:Nat}{X Y:List Int}(h:L4 K X Y)(s:∀c∈X,0<=c/\c<256):∀c∈Y,0<=c/\c<256:=by
 intro c A;obtain⟨i,dI,rfl⟩:=JU A;have k:i<X.length:=by rw[<-h.1];exact dI
 have C:=s _ (Ob k);have q:Y.getD i 0=Y[i]:=by simp[dI]
 have m:X.getD i 0=X[i]:=by simp[k]
 rcases h.2 i k with e|⟨_,a,b,e⟩
 ·rw[q,m]at e;omega
 ·rw[q,m]at e;rw[m]at a b;omega
theorem BC.dA{w:World}{B:Nat}{v:Value}{xs:List Int}(h:BC w B v xs){k:Nat}(ba:k<xs.length):∃g cap,v=.slice (some ⟨g,0,none⟩) xs.length cap/\B<=g/\w.cell? ⟨g,k,none⟩=some (.int .u8 (xs.getD k 0))/\w.frozen? ⟨g,k,none⟩=false/\∀c,BC (w.setCell ⟨g,k,none⟩ (.int .u8 c)) B (.slice (some ⟨g,0,none⟩) xs.length cap) (xs.set k c):=by
 obtain⟨g,cap,m,s,rfl,A,q,b,bx,C,b2,ep⟩:=h;have F:m[k]? = some (.int .u8 (xs.getD k 0)):=by
  have e:(m.toList.take xs.length)[k]? = (xs.map (Value.int .u8))[k]? := N4;rw[Eu,N ba,Px]at e;rw[e,Gg,CI ba];exact Gc
 refine⟨g,cap,rfl,A,?_,?_,λc=>?_⟩
 ·simp[World.cell?,q,F]
 ·unfold World.frozen?;rw[q];obtain⟨k8,dI⟩:=s;simp only at b|-;rcases b with b|b
  ·have:¬k8<=k:=by omega
   simp[this]
  ·simp[b]
 ·refine⟨g,cap,m.setIfInBounds k (.int .u8 c),s,J,A,?_,b,UO,C,RD,?_⟩
  ·rw[R4 w g k m _ _ _ q];exact PG w g m _ _ _ q
  ·rw[JV,Array.toList_setIfInBounds,List.take_set,ep,KV]
end Go.Proofs.YtblcoicaeeiojaaGreatDoor
