/-
  NARROWER THAN 'FOR EVERY INPUT', by the rows' own cells (each row's printed sentence says how): ContextMade: laid · ContextErrors: laid.
  DERIVED. THE GIVEN ROWS OF THIS SEAT. 2 by the template 'for every input the law returns true; each argument reads behind the call as it read before'; 0 by the template 'total and deterministic' (their statements: YtddphlindcabpaaGreatDoorTotals.lean).
  GIVEN WITH THE SEED: the statements are not yours to turn. If you find one false, say at which input.
  Laid BY PROGRAM, IN A SANDBOX (cutbox-rows.mjs): the forced cells as the released guide's own fill.sh prints them over the translation 059cbd04e59f82c9… (all of the seat's roots in one cut). By AI agents, Wed Nov 11 2026. No macro, syntax, notation, axiom, sorry.
-/
import Derived.Test.YtddphlindcabpaaGreatDoorChecked
import GoSem.Claim
import GoSem.ClaimJoined
import GoSem.ClaimMapViews
import Derived.JoinedTies
import Derived.KernelRfl
namespace Go.Proofs.YtddphlindcabpaaGreatDoor
/- THE CELL 'sum', in the pinned program and in every row, IS THE sha256 OF THE DUMP (.gsa) THAT YtddphlindcabpaaGreatDoorProg.lean LOADS. Nothing in Lean hashes anything: it is a label: what it is worth is what the hold of that sum in a sandbox is worth. -/
noncomputable def Tryz.pinned : Pinned := { name := "ytddphlindcabpaagreatdoor", sum := "059cbd04e59f82c936937e84080e500a9e2216894ad5279d1b2dc65f659b60b1", checked := Tryz.checked }
namespace Rows
def none {H : Type} : Left H := { results := [], args := [] }

/- WHAT THE LISTED PACKAGE-LEVEL VARIABLES READ AS WHEN THE CALL BEGINS. Each datum BY PROGRAM (the guide's laid-datum.mjs) off the statement by which the dump's own 'gosem.cut.vars' lays the variable. In a bare row this is a premise. The card (YtddphlindcabpaaGreatDoorCards.lean) ties it to the program's text. -/
def laid_namedesk_table_reserved {H : Type} : DataW H := .agg [.agg [.lit (.int .i64 0), .lit (.int .i64 127)], .agg [.lit (.int .i64 4352), .lit (.int .i64 4370)], .agg [.lit (.int .i64 4449), .lit (.int .i64 4469)], .agg [.lit (.int .i64 4520), .lit (.int .i64 4546)], .agg [.lit (.int .i64 44032), .lit (.int .i64 55203)], .agg [.lit (.int .i64 55296), .lit (.int .i64 57343)]]

/-- 'namedesklaw15.ContextMade': WHATEVER THE INPUT: true; the input reads as it did. -/
def contextMadeSpec : ChangeSpec := { name := "contextMade", fn := fun _ => fun
  | [d1, d2, d3] => { results := [.lit (.bool true)], args := [d1, d2, d3] }
  | _ => none }
def contextMadeRow : OpenClaim := { program := "ytddphlindcabpaagreatdoor", sum := "059cbd04e59f82c936937e84080e500a9e2216894ad5279d1b2dc65f659b60b1", func := "namedesk/namedesklaw15.ContextMade", spec := "contextMade", unfollowed := true, recurses := true, named := ["namedesk/table.reserved"], plainKeys := false, apart := false, laid := [("namedesk/table.reserved", laid_namedesk_table_reserved)] }
def ContextMadeSaid : Prop := contextMadeRow.holds Tryz.pinned (OpenSpec.ofChange contextMadeSpec)

/-- ITS FALSE NEIGHBOUR: 'it returns false'. Refute it at one input. -/
def contextMadeWrong : ChangeSpec := { name := "contextMade", fn := fun _ => fun
  | [d1, d2, d3] => { results := [.lit (.bool false)], args := [d1, d2, d3] }
  | _ => none }
def ContextMadeWrongFalsely : Prop := contextMadeRow.holds Tryz.pinned (OpenSpec.ofChange contextMadeWrong)

/-- 'namedesklaw15.ContextErrors': WHATEVER THE INPUT: true; the input reads as it did. -/
def contextErrorsSpec : ChangeSpec := { name := "contextErrors", fn := fun _ => fun
  | [d1, d2, d3, d4, d5, d6, d7, d8] => { results := [.lit (.bool true)], args := [d1, d2, d3, d4, d5, d6, d7, d8] }
  | _ => none }
def contextErrorsRow : OpenClaim := { program := "ytddphlindcabpaagreatdoor", sum := "059cbd04e59f82c936937e84080e500a9e2216894ad5279d1b2dc65f659b60b1", func := "namedesk/namedesklaw15.ContextErrors", spec := "contextErrors", unfollowed := true, recurses := true, named := ["namedesk/table.reserved"], plainKeys := false, apart := false, laid := [("namedesk/table.reserved", laid_namedesk_table_reserved)] }
def ContextErrorsSaid : Prop := contextErrorsRow.holds Tryz.pinned (OpenSpec.ofChange contextErrorsSpec)

/-- ITS FALSE NEIGHBOUR: 'it returns false'. Refute it at one input. -/
def contextErrorsWrong : ChangeSpec := { name := "contextErrors", fn := fun _ => fun
  | [d1, d2, d3, d4, d5, d6, d7, d8] => { results := [.lit (.bool false)], args := [d1, d2, d3, d4, d5, d6, d7, d8] }
  | _ => none }
def ContextErrorsWrongFalsely : Prop := contextErrorsRow.holds Tryz.pinned (OpenSpec.ofChange contextErrorsWrong)

/- THE SECOND FORM. 'bulk': how many values and letters a reading holds, each counted each time it is reached (what is shared counts as often as it is met; a slice's spare places count too). A statement '..UptoSaid' is the law's where the arguments, and the package variables that the reading takes, are together of bulk at most 1048576: NARROWER than '..Said'. Prove '..Said' where nothing that the law and all that it calls make is longer than what came in: it says more and counts as full. Else prove '..UptoSaid'. A law counts once. -/
mutual
def uptoBulk {H : Type} : DataW H → Nat
  | .lit (.string bytes) => bytes.length + 1
  | .lit _ => 1
  | .nil => 1
  | .ptr d => uptoBulk d + 1
  | .slice elems spare => uptoBulkAll elems + uptoBulkAll spare + 1
  | .agg parts => uptoBulkAll parts + 1
  | .iface _ d => uptoBulk d + 1
  | .map entries => uptoBulkEntries entries + 1
  | .held _ => 1
def uptoBulkAll {H : Type} : List (DataW H) → Nat
  | [] => 0
  | d :: r => uptoBulk d + uptoBulkAll r
def uptoBulkEntries {H : Type} : List (Lit × DataW H) → Nat
  | [] => 0
  | x :: r => uptoBulkEntry x + uptoBulkEntries r
def uptoBulkEntry {H : Type} : Lit × DataW H → Nat
  | (.string bytes, d) => bytes.length + uptoBulk d + 1
  | (_, d) => uptoBulk d + 1
 end
def uptoSmall : (H : Type) → List (DataW H) → Bool := fun _ ds => decide (uptoBulkAll ds ≤ 1048576)
def OpenSpec.upto (s : _root_.Go.ChangeSpec) : _root_.Go.OpenSpec := { _root_.Go.OpenSpec.ofChange s with cond := some uptoSmall }

/-- 'namedesklaw15.ContextMade', WHERE WHAT IT READS IS OF BULK AT MOST 1048576: true; the input reads as it did. -/
def contextMadeUptoRow : OpenClaim := { program := "ytddphlindcabpaagreatdoor", sum := "059cbd04e59f82c936937e84080e500a9e2216894ad5279d1b2dc65f659b60b1", func := "namedesk/namedesklaw15.ContextMade", spec := "contextMade", unfollowed := true, recurses := true, named := ["namedesk/table.reserved"], plainKeys := false, apart := false, laid := [("namedesk/table.reserved", laid_namedesk_table_reserved)], narrowed := true }
def ContextMadeUptoSaid : Prop := contextMadeUptoRow.holds Tryz.pinned (OpenSpec.upto contextMadeSpec)

/-- 'namedesklaw15.ContextErrors', WHERE WHAT IT READS IS OF BULK AT MOST 1048576: true; the input reads as it did. -/
def contextErrorsUptoRow : OpenClaim := { program := "ytddphlindcabpaagreatdoor", sum := "059cbd04e59f82c936937e84080e500a9e2216894ad5279d1b2dc65f659b60b1", func := "namedesk/namedesklaw15.ContextErrors", spec := "contextErrors", unfollowed := true, recurses := true, named := ["namedesk/table.reserved"], plainKeys := false, apart := false, laid := [("namedesk/table.reserved", laid_namedesk_table_reserved)], narrowed := true }
def ContextErrorsUptoSaid : Prop := contextErrorsUptoRow.holds Tryz.pinned (OpenSpec.upto contextErrorsSpec)

end Rows
end Go.Proofs.YtddphlindcabpaaGreatDoor
