/-
  NARROWER THAN 'FOR EVERY INPUT', by the rows' own cells (each row's printed sentence says how): DecomposeMade: laid · DecomposeErrors: laid · DecomposeTwice: laid · DecomposeConcatenation: laid · DecomposeBound: laid.
  DERIVED. THE GIVEN ROWS OF THIS SEAT. 5 by the template 'for every input the law returns true; each argument reads behind the call as it read before'; 0 by the template 'total and deterministic' (their statements: YtgekoeobllhnnaaGreatDoorTotals.lean).
  GIVEN WITH THE SEED: the statements are not yours to turn. If you find one false, say at which input.
  Laid BY PROGRAM, IN A SANDBOX (cutbox-rows.mjs): the forced cells as the released guide's own fill.sh prints them over the translation f91e9793ebac5224… (all of the seat's roots in one cut). By AI agents, Wed Nov 11 2026. No macro, syntax, notation, axiom, sorry.
-/
import Derived.Test.YtgekoeobllhnnaaGreatDoorChecked
import GoSem.Claim
import GoSem.ClaimJoined
import GoSem.ClaimMapViews
import Derived.JoinedTies
import Derived.KernelRfl
namespace Go.Proofs.YtgekoeobllhnnaaGreatDoor
/- THE CELL 'sum', in the pinned program and in every row, IS THE sha256 OF THE DUMP (.gsa) THAT YtgekoeobllhnnaaGreatDoorProg.lean LOADS. Nothing in Lean hashes anything: it is a label: what it is worth is what the hold of that sum in a sandbox is worth. -/
noncomputable def Tryz.pinned : Pinned := { name := "ytgekoeobllhnnaagreatdoor", sum := "f91e9793ebac52240426cd1d516764729aeaf101d2d4bc4c2c444e766511dd39", checked := Tryz.checked }
namespace Rows
def none {H : Type} : Left H := { results := [], args := [] }

/- WHAT THE LISTED PACKAGE-LEVEL VARIABLES READ AS WHEN THE CALL BEGINS. Each datum BY PROGRAM (the guide's laid-datum.mjs) off the statement by which the dump's own 'gosem.cut.vars' lays the variable. In a bare row this is a premise. The card (YtgekoeobllhnnaaGreatDoorCards.lean) ties it to the program's text. -/
def laid_namedesk_table_reserved {H : Type} : DataW H := .agg [.agg [.lit (.int .i64 0), .lit (.int .i64 127)], .agg [.lit (.int .i64 4352), .lit (.int .i64 4370)], .agg [.lit (.int .i64 4449), .lit (.int .i64 4469)], .agg [.lit (.int .i64 4520), .lit (.int .i64 4546)], .agg [.lit (.int .i64 44032), .lit (.int .i64 55203)], .agg [.lit (.int .i64 55296), .lit (.int .i64 57343)]]

/-- 'namedesklaw7.DecomposeMade': WHATEVER THE INPUT: true; the input reads as it did. -/
def decomposeMadeSpec : ChangeSpec := { name := "decomposeMade", fn := fun _ => fun
  | [d1, d2, d3, d4, d5] => { results := [.lit (.bool true)], args := [d1, d2, d3, d4, d5] }
  | _ => none }
def decomposeMadeRow : OpenClaim := { program := "ytgekoeobllhnnaagreatdoor", sum := "f91e9793ebac52240426cd1d516764729aeaf101d2d4bc4c2c444e766511dd39", func := "namedesk/namedesklaw7.DecomposeMade", spec := "decomposeMade", unfollowed := true, recurses := true, named := ["namedesk/table.reserved"], plainKeys := false, apart := false, laid := [("namedesk/table.reserved", laid_namedesk_table_reserved)] }
def DecomposeMadeSaid : Prop := decomposeMadeRow.holds Tryz.pinned (OpenSpec.ofChange decomposeMadeSpec)

/-- ITS FALSE NEIGHBOUR: 'it returns false'. Refute it at one input. -/
def decomposeMadeWrong : ChangeSpec := { name := "decomposeMade", fn := fun _ => fun
  | [d1, d2, d3, d4, d5] => { results := [.lit (.bool false)], args := [d1, d2, d3, d4, d5] }
  | _ => none }
def DecomposeMadeWrongFalsely : Prop := decomposeMadeRow.holds Tryz.pinned (OpenSpec.ofChange decomposeMadeWrong)

/-- 'namedesklaw7.DecomposeErrors': WHATEVER THE INPUT: true; the input reads as it did. -/
def decomposeErrorsSpec : ChangeSpec := { name := "decomposeErrors", fn := fun _ => fun
  | [d1, d2, d3, d4, d5, d6] => { results := [.lit (.bool true)], args := [d1, d2, d3, d4, d5, d6] }
  | _ => none }
def decomposeErrorsRow : OpenClaim := { program := "ytgekoeobllhnnaagreatdoor", sum := "f91e9793ebac52240426cd1d516764729aeaf101d2d4bc4c2c444e766511dd39", func := "namedesk/namedesklaw7.DecomposeErrors", spec := "decomposeErrors", unfollowed := true, recurses := true, named := ["namedesk/table.reserved"], plainKeys := false, apart := false, laid := [("namedesk/table.reserved", laid_namedesk_table_reserved)] }
def DecomposeErrorsSaid : Prop := decomposeErrorsRow.holds Tryz.pinned (OpenSpec.ofChange decomposeErrorsSpec)

/-- ITS FALSE NEIGHBOUR: 'it returns false'. Refute it at one input. -/
def decomposeErrorsWrong : ChangeSpec := { name := "decomposeErrors", fn := fun _ => fun
  | [d1, d2, d3, d4, d5, d6] => { results := [.lit (.bool false)], args := [d1, d2, d3, d4, d5, d6] }
  | _ => none }
def DecomposeErrorsWrongFalsely : Prop := decomposeErrorsRow.holds Tryz.pinned (OpenSpec.ofChange decomposeErrorsWrong)

/-- 'namedesklaw7.DecomposeTwice': WHATEVER THE INPUT: true; the input reads as it did. -/
def decomposeTwiceSpec : ChangeSpec := { name := "decomposeTwice", fn := fun _ => fun
  | [d1, d2] => { results := [.lit (.bool true)], args := [d1, d2] }
  | _ => none }
def decomposeTwiceRow : OpenClaim := { program := "ytgekoeobllhnnaagreatdoor", sum := "f91e9793ebac52240426cd1d516764729aeaf101d2d4bc4c2c444e766511dd39", func := "namedesk/namedesklaw7.DecomposeTwice", spec := "decomposeTwice", unfollowed := true, recurses := true, named := ["namedesk/table.reserved"], plainKeys := false, apart := false, laid := [("namedesk/table.reserved", laid_namedesk_table_reserved)] }
def DecomposeTwiceSaid : Prop := decomposeTwiceRow.holds Tryz.pinned (OpenSpec.ofChange decomposeTwiceSpec)

/-- ITS FALSE NEIGHBOUR: 'it returns false'. Refute it at one input. -/
def decomposeTwiceWrong : ChangeSpec := { name := "decomposeTwice", fn := fun _ => fun
  | [d1, d2] => { results := [.lit (.bool false)], args := [d1, d2] }
  | _ => none }
def DecomposeTwiceWrongFalsely : Prop := decomposeTwiceRow.holds Tryz.pinned (OpenSpec.ofChange decomposeTwiceWrong)

/-- 'namedesklaw7.DecomposeConcatenation': WHATEVER THE INPUT: true; the input reads as it did. -/
def decomposeConcatenationSpec : ChangeSpec := { name := "decomposeConcatenation", fn := fun _ => fun
  | [d1, d2, d3] => { results := [.lit (.bool true)], args := [d1, d2, d3] }
  | _ => none }
def decomposeConcatenationRow : OpenClaim := { program := "ytgekoeobllhnnaagreatdoor", sum := "f91e9793ebac52240426cd1d516764729aeaf101d2d4bc4c2c444e766511dd39", func := "namedesk/namedesklaw7.DecomposeConcatenation", spec := "decomposeConcatenation", unfollowed := true, recurses := true, named := ["namedesk/table.reserved"], plainKeys := false, apart := false, laid := [("namedesk/table.reserved", laid_namedesk_table_reserved)] }
def DecomposeConcatenationSaid : Prop := decomposeConcatenationRow.holds Tryz.pinned (OpenSpec.ofChange decomposeConcatenationSpec)

/-- ITS FALSE NEIGHBOUR: 'it returns false'. Refute it at one input. -/
def decomposeConcatenationWrong : ChangeSpec := { name := "decomposeConcatenation", fn := fun _ => fun
  | [d1, d2, d3] => { results := [.lit (.bool false)], args := [d1, d2, d3] }
  | _ => none }
def DecomposeConcatenationWrongFalsely : Prop := decomposeConcatenationRow.holds Tryz.pinned (OpenSpec.ofChange decomposeConcatenationWrong)

/-- 'namedesklaw7.DecomposeBound': WHATEVER THE INPUT: true; the input reads as it did. -/
def decomposeBoundSpec : ChangeSpec := { name := "decomposeBound", fn := fun _ => fun
  | [d1, d2, d3] => { results := [.lit (.bool true)], args := [d1, d2, d3] }
  | _ => none }
def decomposeBoundRow : OpenClaim := { program := "ytgekoeobllhnnaagreatdoor", sum := "f91e9793ebac52240426cd1d516764729aeaf101d2d4bc4c2c444e766511dd39", func := "namedesk/namedesklaw7.DecomposeBound", spec := "decomposeBound", unfollowed := true, recurses := true, named := ["namedesk/table.reserved"], plainKeys := false, apart := false, laid := [("namedesk/table.reserved", laid_namedesk_table_reserved)] }
def DecomposeBoundSaid : Prop := decomposeBoundRow.holds Tryz.pinned (OpenSpec.ofChange decomposeBoundSpec)

/-- ITS FALSE NEIGHBOUR: 'it returns false'. Refute it at one input. -/
def decomposeBoundWrong : ChangeSpec := { name := "decomposeBound", fn := fun _ => fun
  | [d1, d2, d3] => { results := [.lit (.bool false)], args := [d1, d2, d3] }
  | _ => none }
def DecomposeBoundWrongFalsely : Prop := decomposeBoundRow.holds Tryz.pinned (OpenSpec.ofChange decomposeBoundWrong)

/- THE SECOND FORM. 'bulk': how many values and letters a reading holds, each counted each time it is reached (what is shared counts as often as it is met; a slice's spare places count too). A statement '..UptoSaid' is the law's where the arguments, and the package variables that the reading takes, are together of bulk at most 1048576: NARROWER than '..Said'. Prove '..Said' where nothing that the law and all that it calls make is longer than what came in: it says more and counts as full. Else prove '..UptoSaid'. A law counts once. -/
mutual
def uptoBulk {H : Type} : DataW H → Nat
  | .lit (.string bytes) => bytes.length + 1
  | .lit _ => 1
  | .nil => 1
  | .ptr d => uptoBulk d + 1
  | .slice elems spare => uptoBulkAll elems + uptoBulkAll spare + 1
  | .agg parts => uptoBulkAll parts + 1
  | .iface _ d => uptoBulk d + 1
  | .map entries => uptoBulkEntries entries + 1
  | .held _ => 1
def uptoBulkAll {H : Type} : List (DataW H) → Nat
  | [] => 0
  | d :: r => uptoBulk d + uptoBulkAll r
def uptoBulkEntries {H : Type} : List (Lit × DataW H) → Nat
  | [] => 0
  | x :: r => uptoBulkEntry x + uptoBulkEntries r
def uptoBulkEntry {H : Type} : Lit × DataW H → Nat
  | (.string bytes, d) => bytes.length + uptoBulk d + 1
  | (_, d) => uptoBulk d + 1
 end
def uptoSmall : (H : Type) → List (DataW H) → Bool := fun _ ds => decide (uptoBulkAll ds ≤ 1048576)
def OpenSpec.upto (s : _root_.Go.ChangeSpec) : _root_.Go.OpenSpec := { _root_.Go.OpenSpec.ofChange s with cond := some uptoSmall }

/-- 'namedesklaw7.DecomposeMade', WHERE WHAT IT READS IS OF BULK AT MOST 1048576: true; the input reads as it did. -/
def decomposeMadeUptoRow : OpenClaim := { program := "ytgekoeobllhnnaagreatdoor", sum := "f91e9793ebac52240426cd1d516764729aeaf101d2d4bc4c2c444e766511dd39", func := "namedesk/namedesklaw7.DecomposeMade", spec := "decomposeMade", unfollowed := true, recurses := true, named := ["namedesk/table.reserved"], plainKeys := false, apart := false, laid := [("namedesk/table.reserved", laid_namedesk_table_reserved)], narrowed := true }
def DecomposeMadeUptoSaid : Prop := decomposeMadeUptoRow.holds Tryz.pinned (OpenSpec.upto decomposeMadeSpec)

/-- 'namedesklaw7.DecomposeErrors', WHERE WHAT IT READS IS OF BULK AT MOST 1048576: true; the input reads as it did. -/
def decomposeErrorsUptoRow : OpenClaim := { program := "ytgekoeobllhnnaagreatdoor", sum := "f91e9793ebac52240426cd1d516764729aeaf101d2d4bc4c2c444e766511dd39", func := "namedesk/namedesklaw7.DecomposeErrors", spec := "decomposeErrors", unfollowed := true, recurses := true, named := ["namedesk/table.reserved"], plainKeys := false, apart := false, laid := [("namedesk/table.reserved", laid_namedesk_table_reserved)], narrowed := true }
def DecomposeErrorsUptoSaid : Prop := decomposeErrorsUptoRow.holds Tryz.pinned (OpenSpec.upto decomposeErrorsSpec)

/-- 'namedesklaw7.DecomposeTwice', WHERE WHAT IT READS IS OF BULK AT MOST 1048576: true; the input reads as it did. -/
def decomposeTwiceUptoRow : OpenClaim := { program := "ytgekoeobllhnnaagreatdoor", sum := "f91e9793ebac52240426cd1d516764729aeaf101d2d4bc4c2c444e766511dd39", func := "namedesk/namedesklaw7.DecomposeTwice", spec := "decomposeTwice", unfollowed := true, recurses := true, named := ["namedesk/table.reserved"], plainKeys := false, apart := false, laid := [("namedesk/table.reserved", laid_namedesk_table_reserved)], narrowed := true }
def DecomposeTwiceUptoSaid : Prop := decomposeTwiceUptoRow.holds Tryz.pinned (OpenSpec.upto decomposeTwiceSpec)

/-- 'namedesklaw7.DecomposeConcatenation', WHERE WHAT IT READS IS OF BULK AT MOST 1048576: true; the input reads as it did. -/
def decomposeConcatenationUptoRow : OpenClaim := { program := "ytgekoeobllhnnaagreatdoor", sum := "f91e9793ebac52240426cd1d516764729aeaf101d2d4bc4c2c444e766511dd39", func := "namedesk/namedesklaw7.DecomposeConcatenation", spec := "decomposeConcatenation", unfollowed := true, recurses := true, named := ["namedesk/table.reserved"], plainKeys := false, apart := false, laid := [("namedesk/table.reserved", laid_namedesk_table_reserved)], narrowed := true }
def DecomposeConcatenationUptoSaid : Prop := decomposeConcatenationUptoRow.holds Tryz.pinned (OpenSpec.upto decomposeConcatenationSpec)

/-- 'namedesklaw7.DecomposeBound', WHERE WHAT IT READS IS OF BULK AT MOST 1048576: true; the input reads as it did. -/
def decomposeBoundUptoRow : OpenClaim := { program := "ytgekoeobllhnnaagreatdoor", sum := "f91e9793ebac52240426cd1d516764729aeaf101d2d4bc4c2c444e766511dd39", func := "namedesk/namedesklaw7.DecomposeBound", spec := "decomposeBound", unfollowed := true, recurses := true, named := ["namedesk/table.reserved"], plainKeys := false, apart := false, laid := [("namedesk/table.reserved", laid_namedesk_table_reserved)], narrowed := true }
def DecomposeBoundUptoSaid : Prop := decomposeBoundUptoRow.holds Tryz.pinned (OpenSpec.upto decomposeBoundSpec)

end Rows
end Go.Proofs.YtgekoeobllhnnaaGreatDoor
