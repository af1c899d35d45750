/-
  NARROWER THAN 'FOR EVERY INPUT', by the rows' own cells (each row's printed sentence says how): JoinerMade: laid · JoinerErrors: laid.
  DERIVED. THE GIVEN ROWS OF THIS SEAT. 2 by the template 'for every input the law returns true; each argument reads behind the call as it read before'; 0 by the template 'total and deterministic' (their statements: YtghmddfenmgncaaGreatDoorTotals.lean).
  GIVEN WITH THE SEED: the statements are not yours to turn. If you find one false, say at which input.
  Laid BY PROGRAM, IN A SANDBOX (cutbox-rows.mjs): the forced cells as the released guide's own fill.sh prints them over the translation 1db26a5027c1e41f… (all of the seat's roots in one cut). By AI agents, Wed Nov 11 2026. No macro, syntax, notation, axiom, sorry.
-/
import Derived.Test.YtghmddfenmgncaaGreatDoorChecked
import GoSem.Claim
import GoSem.ClaimJoined
import GoSem.ClaimMapViews
import Derived.JoinedTies
import Derived.KernelRfl
namespace Go.Proofs.YtghmddfenmgncaaGreatDoor
/- THE CELL 'sum', in the pinned program and in every row, IS THE sha256 OF THE DUMP (.gsa) THAT YtghmddfenmgncaaGreatDoorProg.lean LOADS. Nothing in Lean hashes anything: it is a label: what it is worth is what the hold of that sum in a sandbox is worth. -/
noncomputable def Tryz.pinned : Pinned := { name := "ytghmddfenmgncaagreatdoor", sum := "1db26a5027c1e41fcabfa35276de726bf1419536b3edfbd71338bde04a6ce419", checked := Tryz.checked }
namespace Rows
def none {H : Type} : Left H := { results := [], args := [] }

/- WHAT THE LISTED PACKAGE-LEVEL VARIABLES READ AS WHEN THE CALL BEGINS. Each datum BY PROGRAM (the guide's laid-datum.mjs) off the statement by which the dump's own 'gosem.cut.vars' lays the variable. In a bare row this is a premise. The card (YtghmddfenmgncaaGreatDoorCards.lean) ties it to the program's text. -/
def laid_namedesk_table_reserved {H : Type} : DataW H := .agg [.agg [.lit (.int .i64 0), .lit (.int .i64 127)], .agg [.lit (.int .i64 4352), .lit (.int .i64 4370)], .agg [.lit (.int .i64 4449), .lit (.int .i64 4469)], .agg [.lit (.int .i64 4520), .lit (.int .i64 4546)], .agg [.lit (.int .i64 44032), .lit (.int .i64 55203)], .agg [.lit (.int .i64 55296), .lit (.int .i64 57343)]]

/-- 'namedesklaw14.JoinerMade': WHATEVER THE INPUT: true; the input reads as it did. -/
def joinerMadeSpec : ChangeSpec := { name := "joinerMade", fn := fun _ => fun
  | [d1, d2, d3] => { results := [.lit (.bool true)], args := [d1, d2, d3] }
  | _ => none }
def joinerMadeRow : OpenClaim := { program := "ytghmddfenmgncaagreatdoor", sum := "1db26a5027c1e41fcabfa35276de726bf1419536b3edfbd71338bde04a6ce419", func := "namedesk/namedesklaw14.JoinerMade", spec := "joinerMade", unfollowed := true, recurses := true, named := ["namedesk/table.reserved"], plainKeys := false, apart := false, laid := [("namedesk/table.reserved", laid_namedesk_table_reserved)] }
def JoinerMadeSaid : Prop := joinerMadeRow.holds Tryz.pinned (OpenSpec.ofChange joinerMadeSpec)

/-- ITS FALSE NEIGHBOUR: 'it returns false'. Refute it at one input. -/
def joinerMadeWrong : ChangeSpec := { name := "joinerMade", fn := fun _ => fun
  | [d1, d2, d3] => { results := [.lit (.bool false)], args := [d1, d2, d3] }
  | _ => none }
def JoinerMadeWrongFalsely : Prop := joinerMadeRow.holds Tryz.pinned (OpenSpec.ofChange joinerMadeWrong)

/-- 'namedesklaw14.JoinerErrors': WHATEVER THE INPUT: true; the input reads as it did. -/
def joinerErrorsSpec : ChangeSpec := { name := "joinerErrors", fn := fun _ => fun
  | [d1, d2, d3, d4, d5, d6, d7, d8] => { results := [.lit (.bool true)], args := [d1, d2, d3, d4, d5, d6, d7, d8] }
  | _ => none }
def joinerErrorsRow : OpenClaim := { program := "ytghmddfenmgncaagreatdoor", sum := "1db26a5027c1e41fcabfa35276de726bf1419536b3edfbd71338bde04a6ce419", func := "namedesk/namedesklaw14.JoinerErrors", spec := "joinerErrors", unfollowed := true, recurses := true, named := ["namedesk/table.reserved"], plainKeys := false, apart := false, laid := [("namedesk/table.reserved", laid_namedesk_table_reserved)] }
def JoinerErrorsSaid : Prop := joinerErrorsRow.holds Tryz.pinned (OpenSpec.ofChange joinerErrorsSpec)

/-- ITS FALSE NEIGHBOUR: 'it returns false'. Refute it at one input. -/
def joinerErrorsWrong : ChangeSpec := { name := "joinerErrors", fn := fun _ => fun
  | [d1, d2, d3, d4, d5, d6, d7, d8] => { results := [.lit (.bool false)], args := [d1, d2, d3, d4, d5, d6, d7, d8] }
  | _ => none }
def JoinerErrorsWrongFalsely : Prop := joinerErrorsRow.holds Tryz.pinned (OpenSpec.ofChange joinerErrorsWrong)

/- THE SECOND FORM. 'bulk': how many values and letters a reading holds, each counted each time it is reached (what is shared counts as often as it is met; a slice's spare places count too). A statement '..UptoSaid' is the law's where the arguments, and the package variables that the reading takes, are together of bulk at most 1048576: NARROWER than '..Said'. Prove '..Said' where nothing that the law and all that it calls make is longer than what came in: it says more and counts as full. Else prove '..UptoSaid'. A law counts once. -/
mutual
def uptoBulk {H : Type} : DataW H → Nat
  | .lit (.string bytes) => bytes.length + 1
  | .lit _ => 1
  | .nil => 1
  | .ptr d => uptoBulk d + 1
  | .slice elems spare => uptoBulkAll elems + uptoBulkAll spare + 1
  | .agg parts => uptoBulkAll parts + 1
  | .iface _ d => uptoBulk d + 1
  | .map entries => uptoBulkEntries entries + 1
  | .held _ => 1
def uptoBulkAll {H : Type} : List (DataW H) → Nat
  | [] => 0
  | d :: r => uptoBulk d + uptoBulkAll r
def uptoBulkEntries {H : Type} : List (Lit × DataW H) → Nat
  | [] => 0
  | x :: r => uptoBulkEntry x + uptoBulkEntries r
def uptoBulkEntry {H : Type} : Lit × DataW H → Nat
  | (.string bytes, d) => bytes.length + uptoBulk d + 1
  | (_, d) => uptoBulk d + 1
 end
def uptoSmall : (H : Type) → List (DataW H) → Bool := fun _ ds => decide (uptoBulkAll ds ≤ 1048576)
def OpenSpec.upto (s : _root_.Go.ChangeSpec) : _root_.Go.OpenSpec := { _root_.Go.OpenSpec.ofChange s with cond := some uptoSmall }

/-- 'namedesklaw14.JoinerMade', WHERE WHAT IT READS IS OF BULK AT MOST 1048576: true; the input reads as it did. -/
def joinerMadeUptoRow : OpenClaim := { program := "ytghmddfenmgncaagreatdoor", sum := "1db26a5027c1e41fcabfa35276de726bf1419536b3edfbd71338bde04a6ce419", func := "namedesk/namedesklaw14.JoinerMade", spec := "joinerMade", unfollowed := true, recurses := true, named := ["namedesk/table.reserved"], plainKeys := false, apart := false, laid := [("namedesk/table.reserved", laid_namedesk_table_reserved)], narrowed := true }
def JoinerMadeUptoSaid : Prop := joinerMadeUptoRow.holds Tryz.pinned (OpenSpec.upto joinerMadeSpec)

/-- 'namedesklaw14.JoinerErrors', WHERE WHAT IT READS IS OF BULK AT MOST 1048576: true; the input reads as it did. -/
def joinerErrorsUptoRow : OpenClaim := { program := "ytghmddfenmgncaagreatdoor", sum := "1db26a5027c1e41fcabfa35276de726bf1419536b3edfbd71338bde04a6ce419", func := "namedesk/namedesklaw14.JoinerErrors", spec := "joinerErrors", unfollowed := true, recurses := true, named := ["namedesk/table.reserved"], plainKeys := false, apart := false, laid := [("namedesk/table.reserved", laid_namedesk_table_reserved)], narrowed := true }
def JoinerErrorsUptoSaid : Prop := joinerErrorsUptoRow.holds Tryz.pinned (OpenSpec.upto joinerErrorsSpec)

end Rows
end Go.Proofs.YtghmddfenmgncaaGreatDoor
