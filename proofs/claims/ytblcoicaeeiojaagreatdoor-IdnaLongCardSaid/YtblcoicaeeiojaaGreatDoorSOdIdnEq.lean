/- idna (stage 18): plain:  -/
import Derived.Test.YtblcoicaeeiojaaGreatDoorSOdPmIdnA
set_option linter.all false
namespace Go.Proofs.YtblcoicaeeiojaaGreatDoor
def Aph{T:Y}(h:BZ T)(c:Int):(Dz T c).length<=2:=by
 unfold Dz;split
 ·unfold FP;split
  ·exact J
  ·exact Azt
 ·split<;>simp
theorem AdX{T:Y}(h:BZ T):∀(l:List Int),(AF T l).length<=2*l.length
 | []=>by simp[AF]
 | c::r=>by
  have b:=Aph h c;have k:=AdX h r;exact Azg
def Wg{l:List Int}(h:l≠[]):1<=(Bj l).length:=by
 cases l with
 | nil=>exact absurd rfl h
 | cons c r =>
  unfold Bj;rw[JT,Bc];have:1<=(Bq c).length:=by
   unfold Bq
   repeat' split
   all_goals simp
  omega
def AnI{T:Y}(h:BZ T){s:List UInt8}(bb:s.length<=100){D M:List Int}{L ac:Nat}(b:Bo s=(D,L,0))(m:Bl T D=(M,ac,0))(C:M≠[]):Cl M=(strOfNums (Bj M),0)/\(strOfNums (Bj M)).size<=800/\Bf T (strOfNums (Bj M)).data.toList=Bf T s:=by
 have bc:D.length<=s.length:=by
  have c:=b
  unfold Bo at c
  rw[if_neg (by omega)]at c
  have bd:=Qi s.length s (Nat.le_refl _)
  split at c
  ·injection c with q k
   injection k with k ad
   cases ad
  ·injection c with q _
   rw[<-q];omega
 obtain⟨am,be,bl,F⟩:=TC (T:=T) (l:=D) (by rw[m])
 rw[m]at F
 injection F with A _
 obtain⟨a1,_,a3⟩:=CN am
 have G:M.all AA=true:=by rw[A];exact(QF a1 D a3).2
 have bs:M.length<=200:=by rw[A];have:=AdX h D;omega
 have bt:=Oy M
 have bv:=Wg C
 have a9:s≠[]:=λe=>by
  rw[e]at b
  have:Bo []=([],0,0):=by decide +kernel
  rw[this]at b
  injection b with q _
  rw[<-q]at A
  exact C (by rw[A];rfl)
 have bx:(strOfNums (Bj M)).size=(Bj M).length:=strOfNums_size _
 have a':(strOfNums (Bj M)).data.toList≠[]:=λe=>by
  have k:(strOfNums (Bj M)).data.toList.length=(strOfNums (Bj M)).size:=rfl
  rw[e]at k
  simp at k
  omega
 have ba:=Arz h a9 a' (by rw[b]) (by rw[b];simp only;rw[m]) (by rw[b];simp only;rw[m];exact V1 G (by omega))
 exact⟨Te G (by omega),by omega,(AgI ba).1⟩
end Go.Proofs.YtblcoicaeeiojaaGreatDoor
