/-
  NARROWER THAN 'FOR EVERY INPUT', by the rows' own cells (each row's printed sentence says how): TableCheck: laid · TableMapped: laid.
  DERIVED. THE GIVEN ROWS OF THIS SEAT. 2 by the template 'for every input the law returns true; each argument reads behind the call as it read before'; 0 by the template 'total and deterministic' (their statements: YtmkaclfjekjabaaDoorTotals.lean).
  GIVEN WITH THE SEED: the statements are not yours to turn. If you find one false, say at which input.
  Laid BY PROGRAM, IN A SANDBOX (cutbox-rows.mjs): the forced cells as the released guide's own fill.sh prints them over the translation 1444490d740ab08b… (all of the seat's roots in one cut). By AI agents, Wed Nov 11 2026. No macro, syntax, notation, axiom, sorry.
-/
import Derived.Test.YtmkaclfjekjabaaDoorChecked
import GoSem.Claim
import GoSem.ClaimJoined
import GoSem.ClaimMapViews
import Derived.JoinedTies
import Derived.KernelRfl
namespace Go.Proofs.YtmkaclfjekjabaaDoor
/- THE CELL 'sum', in the pinned program and in every row, IS THE sha256 OF THE DUMP (.gsa) THAT YtmkaclfjekjabaaDoorProg.lean LOADS. Nothing in Lean hashes anything: it is a label: what it is worth is what the hold of that sum in a sandbox is worth. -/
noncomputable def Tryd.pinned : Pinned := { name := "ytmkaclfjekjabaadoor", sum := "1444490d740ab08be64f1ee02ef4c42602ac37622e7e4a98a17a0cddc992e93b", checked := Tryd.checked }
namespace Rows
def none {H : Type} : Left H := { results := [], args := [] }

/- WHAT THE LISTED PACKAGE-LEVEL VARIABLES READ AS WHEN THE CALL BEGINS. Each datum BY PROGRAM (the guide's laid-datum.mjs) off the statement by which the dump's own 'gosem.cut.vars' lays the variable. In a bare row this is a premise. The card (YtmkaclfjekjabaaDoorCards.lean) ties it to the program's text. -/
def laid_namedesk_table_reserved {H : Type} : DataW H := .agg [.agg [.lit (.int .i64 0), .lit (.int .i64 127)], .agg [.lit (.int .i64 4352), .lit (.int .i64 4370)], .agg [.lit (.int .i64 4449), .lit (.int .i64 4469)], .agg [.lit (.int .i64 4520), .lit (.int .i64 4546)], .agg [.lit (.int .i64 44032), .lit (.int .i64 55203)], .agg [.lit (.int .i64 55296), .lit (.int .i64 57343)]]

/-- 'namedesklaw4.TableCheck': WHATEVER THE INPUT: true; the input reads as it did. -/
def tableCheckSpec : ChangeSpec := { name := "tableCheck", fn := fun _ => fun
  | [d] => { results := [.lit (.bool true)], args := [d] }
  | _ => none }
def tableCheckRow : OpenClaim := { program := "ytmkaclfjekjabaadoor", sum := "1444490d740ab08be64f1ee02ef4c42602ac37622e7e4a98a17a0cddc992e93b", func := "namedesk/namedesklaw4.TableCheck", spec := "tableCheck", unfollowed := true, recurses := true, named := ["namedesk/table.reserved"], plainKeys := false, apart := false, laid := [("namedesk/table.reserved", laid_namedesk_table_reserved)] }
def TableCheckSaid : Prop := tableCheckRow.holds Tryd.pinned (OpenSpec.ofChange tableCheckSpec)

/-- ITS FALSE NEIGHBOUR: 'it returns false'. Refute it at one input. -/
def tableCheckWrong : ChangeSpec := { name := "tableCheck", fn := fun _ => fun
  | [d] => { results := [.lit (.bool false)], args := [d] }
  | _ => none }
def TableCheckWrongFalsely : Prop := tableCheckRow.holds Tryd.pinned (OpenSpec.ofChange tableCheckWrong)

/-- 'namedesklaw4.TableMapped': WHATEVER THE INPUT: true; the input reads as it did. -/
def tableMappedSpec : ChangeSpec := { name := "tableMapped", fn := fun _ => fun
  | [d1, d2] => { results := [.lit (.bool true)], args := [d1, d2] }
  | _ => none }
def tableMappedRow : OpenClaim := { program := "ytmkaclfjekjabaadoor", sum := "1444490d740ab08be64f1ee02ef4c42602ac37622e7e4a98a17a0cddc992e93b", func := "namedesk/namedesklaw4.TableMapped", spec := "tableMapped", unfollowed := true, recurses := true, named := ["namedesk/table.reserved"], plainKeys := false, apart := false, laid := [("namedesk/table.reserved", laid_namedesk_table_reserved)] }
def TableMappedSaid : Prop := tableMappedRow.holds Tryd.pinned (OpenSpec.ofChange tableMappedSpec)

/-- ITS FALSE NEIGHBOUR: 'it returns false'. Refute it at one input. -/
def tableMappedWrong : ChangeSpec := { name := "tableMapped", fn := fun _ => fun
  | [d1, d2] => { results := [.lit (.bool false)], args := [d1, d2] }
  | _ => none }
def TableMappedWrongFalsely : Prop := tableMappedRow.holds Tryd.pinned (OpenSpec.ofChange tableMappedWrong)

/- THE SECOND FORM. 'bulk': how many values and letters a reading holds, each counted each time it is reached (what is shared counts as often as it is met; a slice's spare places count too). A statement '..UptoSaid' is the law's where the arguments, and the package variables that the reading takes, are together of bulk at most 1048576: NARROWER than '..Said'. Prove '..Said' where nothing that the law and all that it calls make is longer than what came in: it says more and counts as full. Else prove '..UptoSaid'. A law counts once. -/
mutual
def uptoBulk {H : Type} : DataW H → Nat
  | .lit (.string bytes) => bytes.length + 1
  | .lit _ => 1
  | .nil => 1
  | .ptr d => uptoBulk d + 1
  | .slice elems spare => uptoBulkAll elems + uptoBulkAll spare + 1
  | .agg parts => uptoBulkAll parts + 1
  | .iface _ d => uptoBulk d + 1
  | .map entries => uptoBulkEntries entries + 1
  | .held _ => 1
def uptoBulkAll {H : Type} : List (DataW H) → Nat
  | [] => 0
  | d :: r => uptoBulk d + uptoBulkAll r
def uptoBulkEntries {H : Type} : List (Lit × DataW H) → Nat
  | [] => 0
  | x :: r => uptoBulkEntry x + uptoBulkEntries r
def uptoBulkEntry {H : Type} : Lit × DataW H → Nat
  | (.string bytes, d) => bytes.length + uptoBulk d + 1
  | (_, d) => uptoBulk d + 1
 end
def uptoSmall : (H : Type) → List (DataW H) → Bool := fun _ ds => decide (uptoBulkAll ds ≤ 1048576)
def OpenSpec.upto (s : _root_.Go.ChangeSpec) : _root_.Go.OpenSpec := { _root_.Go.OpenSpec.ofChange s with cond := some uptoSmall }

/-- 'namedesklaw4.TableCheck', WHERE WHAT IT READS IS OF BULK AT MOST 1048576: true; the input reads as it did. -/
def tableCheckUptoRow : OpenClaim := { program := "ytmkaclfjekjabaadoor", sum := "1444490d740ab08be64f1ee02ef4c42602ac37622e7e4a98a17a0cddc992e93b", func := "namedesk/namedesklaw4.TableCheck", spec := "tableCheck", unfollowed := true, recurses := true, named := ["namedesk/table.reserved"], plainKeys := false, apart := false, laid := [("namedesk/table.reserved", laid_namedesk_table_reserved)], narrowed := true }
def TableCheckUptoSaid : Prop := tableCheckUptoRow.holds Tryd.pinned (OpenSpec.upto tableCheckSpec)

/-- 'namedesklaw4.TableMapped', WHERE WHAT IT READS IS OF BULK AT MOST 1048576: true; the input reads as it did. -/
def tableMappedUptoRow : OpenClaim := { program := "ytmkaclfjekjabaadoor", sum := "1444490d740ab08be64f1ee02ef4c42602ac37622e7e4a98a17a0cddc992e93b", func := "namedesk/namedesklaw4.TableMapped", spec := "tableMapped", unfollowed := true, recurses := true, named := ["namedesk/table.reserved"], plainKeys := false, apart := false, laid := [("namedesk/table.reserved", laid_namedesk_table_reserved)], narrowed := true }
def TableMappedUptoSaid : Prop := tableMappedUptoRow.holds Tryd.pinned (OpenSpec.upto tableMappedSpec)

end Rows
end Go.Proofs.YtmkaclfjekjabaaDoor
