/- idna (stage 18): plain:  -/
import Derived.Test.YtblcoicaeeiojaaGreatDoorSOdPmIdnA
set_option linter.all false
namespace Go.Proofs.YtblcoicaeeiojaaGreatDoor
def Ae6{T:Y}{s:List UInt8}(h:(A9 T s).2.2≠0):(A9 T s).1=[]:=by
 rw[Ae7]at h|-;split
 ·rfl
 ·rename_i b;rw[V b]at h;unfold DX at h|-;split
  ·rfl
  ·rename_i c;rw[V c]at h;split
   ·rfl
   ·rename_i e;rw[V e]at h;exact absurd rfl h
def Ac1{T:Y}{s:List UInt8}{A:List Int}{K:Nat}(F:Bf T s=(A,K,0)){b:ByteArray}(L:strOfNums A=b):Ap b=A/\(∀c∈A,GV c\/c=46)/\1<=A.length/\A.length<=253/\K=0/\CW ((Agv b).map ByteArray.size)=(0,0):=by
 have ac:(Bf T s).2.2=0:=by rw[F]
 obtain⟨e,k,m,q,C⟩:=Auy ac;rw[F]at e k m q C;simp only at e k m q C;have G:Ap b=A:=by
  rw[<-L];exact Mo _ λc ad=>by rcases e c ad with h|h<;>first|omega|(unfold GV at h;omega)
 refine⟨G,e,k,m,q,?_⟩;rw[<-C];unfold Agv;rw[G,LZ];congr 1;exact Jc λy _=>Et y
end Go.Proofs.YtblcoicaeeiojaaGreatDoor
