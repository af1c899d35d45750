/-
  IdnaCase: capital letters from A to Z do not change the result. No condition but what the card ties: every input that the statement speaks of.
  The frame of the row's proof and the card; the walk stands in YtblcoicaeeiojaaGreatDoorIdnaCaseWalk.
-/
import Derived.Test.YtblcoicaeeiojaaGreatDoorSOdIdnaCaseProofC
set_option linter.unusedSimpArgs false
set_option linter.unusedVariables false
namespace Go.Proofs.YtblcoicaeeiojaaGreatDoor.idnaCase
open Go.ChangeShapes Go.WideShapes Go.ChangeAt Go.RowKit
set_option maxHeartbeats 0 in
theorem proved:Rows.IdnaCaseCardSaid :=
 Claim7.holds_tied_plain_at .later [] [.data] true (true, "d27e07bb6db37fbd383fddf4ab156c0f6368cdcdfbf3ea36a00f23ac3e7a3454") false
  over (fun _ h=>by cases h) (by as_aux_lemma=>kernel_rfl) (fun _ h=>by cases h) idnaCase_row_tie rfl ⟨rfl,rfl⟩ (by as_aux_lemma=>kernel_rfl) rfl
  (fun f fn hf hfn=>by
   obtain rfl : f = 8 := Option.some.inj ((show Tryz.prog.funcNamed "namedesk/namedesklaw18.IdnaCase" = some 8 by kernel_rfl).symm.trans hf) |>.symm
   obtain rfl:fn=Tryz.f8:=(Option.some.inj (Tryz.func8.symm.trans hfn)).symm
   exact⟨(by as_aux_lemma=>kernel_rfl),fun j t ht=>by
    rw[Tryz.params8]at ht
    have hm:t∈[22,22,3]:=by simpa using Array.mem_of_getElem? ht
    have hall:([22,22,3].all fun u => !Tryz.prog.wantsStandIn u)=true:=by kernel_rfl
    exact(show Tryz.prog.wantsStandIn t=false by simpa using List.all_eq_true.1 hall t hm)⟩)
  (by as_aux_lemma=>kernel_rfl)
#print axioms proved
end Go.Proofs.YtblcoicaeeiojaaGreatDoor.idnaCase
