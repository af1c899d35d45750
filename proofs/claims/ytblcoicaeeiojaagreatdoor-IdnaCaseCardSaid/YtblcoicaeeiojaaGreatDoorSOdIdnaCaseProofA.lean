/-
  IdnaCase: capital letters from A to Z do not change the result. No condition but what the card ties: every input that the statement speaks of.
  The frame of the row's proof and the card; the walk stands in YtblcoicaeeiojaaGreatDoorIdnaCaseWalk.
-/
import Derived.Test.YtblcoicaeeiojaaGreatDoorSOdIdnaCaseWalk
import Derived.Test.YtblcoicaeeiojaaGreatDoorRows
import Derived.Test.YtblcoicaeeiojaaGreatDoorCards
import Derived.Test.YtblcoicaeeiojaaGreatDoorTie
import Derived.ProofKit
import Derived.OpenShut
import Derived.ShutString
import Derived.LaidMore
import Derived.SevenTiedAt
set_option linter.unusedSimpArgs false
set_option linter.unusedVariables false
namespace Go.Proofs.YtblcoicaeeiojaaGreatDoor.idnaCase
open Go.ChangeShapes Go.WideShapes Go.ChangeAt Go.RowKit
set_option linter.unusedVariables false
theorem bytesInt:Tryz.prog.bytesOf 3=8:=by kernel_rfl
theorem own:ownKnob Tryz.prog.godebug=none:=by kernel_rfl
theorem laidOut:laidOutB Tryz.prog=true:=by kernel_rfl
theorem gRes : Tryz.prog.globalNamed "namedesk/table.reserved" = some 0 := by kernel_rfl
theorem tRes:(Tryz.prog.globals[0]?).map (·.type)=some 204:=by kernel_rfl
theorem door_met (os:Os) (args:Array Value):laidMetH Tryz.prog Rows.idnaCaseRow.laid ((World.doorLaid Tryz.prog 20 os).forCall (fun _ _=>0) ⟨#[],args,[]⟩).memory :=
 laidMetH_of_parts3 (fuel:=8) (laidMet_of_run' 8 (by kernel_rfl) (by kernel_rfl)) (by kernel_rfl) (by kernel_rfl)
theorem cellPair_at {H : Type} {enc : TypeId × Value → H} {W : World} {base m : Nat} {spare : Nat → Bool} {held : Bool} {cs : List Value} {a b : Int} {q : List MemPlace}
  (h:DataW.trod enc Tryz.prog W base spare held m 203 cs=some (.agg [.lit (.int .i64 a),.lit (.int .i64 b)],q)):cs=[.int .i64 a,.int .i64 b]:=by
 obtain⟨y0,y1,n,hx1,hlen,h0,h1⟩:=trod_struct2 Tryz.underlying203 h
 have c2:Tryz.prog.cellsOf 203=2:=by kernel_rfl
 have c1:Tryz.prog.cellsOf 3=1:=by kernel_rfl
 simp only[c1]at h0 h1
 rw[c2]at hlen
 simp only[Prod.mk.injEq,DataW.agg.injEq,List.cons.injEq]at hx1
 match cs,hlen,h0,h1 with
 | [u0,u1],_,h0,h1 =>
  simp at h0 h1
  obtain⟨k,e1,e2,_⟩:=DataW.trod_int Tryz.underlying3 h0
  obtain⟨k',e3,e4,_⟩:=DataW.trod_int Tryz.underlying3 h1
  have g0:=hx1.1.1
  have g1:=hx1.1.2.1
  rw[e2]at g0
  rw[e4]at g1
  simp at g0 g1 e1 e3
  rw[e1,e3,g0,g1]
set_option maxRecDepth 20000 in
theorem of_laid {W:World} (h:laidMetH Tryz.prog Rows.idnaCaseRow.laid W):Bi W:=by
 rw[MakeChecks.laidMetH_plain _ _ _ (by kernel_rfl)]at h
 obtain⟨ps,⟨g0,t0,cs0,f0,p0,q0,hg0,ht0,hv0,hd0,_,_⟩,_,_⟩:=h
 obtain rfl:=Option.some.inj (gRes.symm.trans hg0)
 obtain rfl:=Option.some.inj (tRes.symm.trans ht0)
 obtain⟨xs,m1,rfl,hx1,hlen,hn,hel⟩:=DataW.trod_array Tryz.underlying204 hd0
 have c2:Tryz.prog.cellsOf 203=2:=by kernel_rfl
 have c12:Tryz.prog.cellsOf 204=12:=by kernel_rfl
 rw[c12]at hlen
 have hcell:=World.var?_cell hg0 hv0
 obtain⟨l⟩:=cs0
 simp only[Prod.mk.injEq]at hx1
 have h0:=hel 0 (by decide)
 have h1:=hel 1 (by decide)
 have h2:=hel 2 (by decide)
 have h3:=hel 3 (by decide)
 have h4:=hel 4 (by decide)
 have h5:=hel 5 (by decide)
 rw[c2]at h0 h1 h2 h3 h4 h5
 have hx2:DataW.agg [.agg [.lit (.int .i64 0),.lit (.int .i64 127)],.agg [.lit (.int .i64 4352),.lit (.int .i64 4370)],.agg [.lit (.int .i64 4449),.lit (.int .i64 4469)],.agg [.lit (.int .i64 4520),.lit (.int .i64 4546)],.agg [.lit (.int .i64 44032),.lit (.int .i64 55203)],.agg [.lit (.int .i64 55296),.lit (.int .i64 57343)]]=DataW.agg (xs.map (·.1)):=hx1.1
 match xs,hn,l,hlen,hx2,h0,h1,h2,h3,h4,h5 with
 | [(d0,r0),(d1,r1),(d2,r2),(d3,r3),(d4,r4),(d5,r5)],_,[u0,u1,u2,u3,u4,u5,u6,u7,u8,u9,u10,u11],_,hx2,h0,h1,h2,h3,h4,h5 =>
  simp only[List.map_cons,List.map_nil,DataW.agg.injEq,List.cons.injEq]at hx2
  obtain⟨rfl,rfl,rfl,rfl,rfl,rfl,_⟩:=hx2
  have e0:=cellPair_at h0
  have e1:=cellPair_at h1
  have e2:=cellPair_at h2
  have e3:=cellPair_at h3
  have e4:=cellPair_at h4
  have e5:=cellPair_at h5
  simp at e0 e1 e2 e3 e4 e5
  obtain⟨rfl,rfl⟩:=e0
  obtain⟨rfl,rfl⟩:=e1
  obtain⟨rfl,rfl⟩:=e2
  obtain⟨rfl,rfl⟩:=e3
  obtain⟨rfl,rfl⟩:=e4
  obtain⟨rfl,rfl⟩:=e5
  exact⟨⟨hcell 0,hcell 1,hcell 2,hcell 3,hcell 4,hcell 5⟩,⟨hcell 6,hcell 7,hcell 8,hcell 9,hcell 10,hcell 11⟩⟩
end Go.Proofs.YtblcoicaeeiojaaGreatDoor.idnaCase
