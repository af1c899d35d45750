/-
  NARROWER THAN 'FOR EVERY INPUT', by the rows' own cells (each row's printed sentence says how): MappingTwice: laid · MappingConcatenation: laid · MappingPermitted: laid · MappingLetters: laid · MappingFull: laid.
  DERIVED. THE GIVEN ROWS OF THIS SEAT. 5 by the template 'for every input the law returns true; each argument reads behind the call as it read before'; 0 by the template 'total and deterministic' (their statements: YtnmckcfaalakoaaDoorTotals.lean).
  GIVEN WITH THE SEED: the statements are not yours to turn. If you find one false, say at which input.
  Laid BY PROGRAM, IN A SANDBOX (cutbox-rows.mjs): the forced cells as the released guide's own fill.sh prints them over the translation 468e4982d2078381… (all of the seat's roots in one cut). By AI agents, Wed Nov 11 2026. No macro, syntax, notation, axiom, sorry.
-/
import Derived.Test.YtnmckcfaalakoaaDoorChecked
import GoSem.Claim
import GoSem.ClaimJoined
import GoSem.ClaimMapViews
import Derived.JoinedTies
import Derived.KernelRfl
namespace Go.Proofs.YtnmckcfaalakoaaDoor
/- THE CELL 'sum', in the pinned program and in every row, IS THE sha256 OF THE DUMP (.gsa) THAT YtnmckcfaalakoaaDoorProg.lean LOADS. Nothing in Lean hashes anything: it is a label: what it is worth is what the hold of that sum in a sandbox is worth. -/
noncomputable def Tryd.pinned : Pinned := { name := "ytnmckcfaalakoaadoor", sum := "468e4982d2078381600cb64a67d179a8bb178b26d3a27e328daf681f767516fb", checked := Tryd.checked }
namespace Rows
def none {H : Type} : Left H := { results := [], args := [] }

/- WHAT THE LISTED PACKAGE-LEVEL VARIABLES READ AS WHEN THE CALL BEGINS. Each datum BY PROGRAM (the guide's laid-datum.mjs) off the statement by which the dump's own 'gosem.cut.vars' lays the variable. In a bare row this is a premise. The card (YtnmckcfaalakoaaDoorCards.lean) ties it to the program's text. -/
def laid_namedesk_table_reserved {H : Type} : DataW H := .agg [.agg [.lit (.int .i64 0), .lit (.int .i64 127)], .agg [.lit (.int .i64 4352), .lit (.int .i64 4370)], .agg [.lit (.int .i64 4449), .lit (.int .i64 4469)], .agg [.lit (.int .i64 4520), .lit (.int .i64 4546)], .agg [.lit (.int .i64 44032), .lit (.int .i64 55203)], .agg [.lit (.int .i64 55296), .lit (.int .i64 57343)]]

/-- 'namedesklaw13.MappingTwice': WHATEVER THE INPUT: true; the input reads as it did. -/
def mappingTwiceSpec : ChangeSpec := { name := "mappingTwice", fn := fun _ => fun
  | [d1, d2] => { results := [.lit (.bool true)], args := [d1, d2] }
  | _ => none }
def mappingTwiceRow : OpenClaim := { program := "ytnmckcfaalakoaadoor", sum := "468e4982d2078381600cb64a67d179a8bb178b26d3a27e328daf681f767516fb", func := "namedesk/namedesklaw13.MappingTwice", spec := "mappingTwice", unfollowed := true, recurses := true, named := ["namedesk/table.reserved"], plainKeys := false, apart := false, laid := [("namedesk/table.reserved", laid_namedesk_table_reserved)] }
def MappingTwiceSaid : Prop := mappingTwiceRow.holds Tryd.pinned (OpenSpec.ofChange mappingTwiceSpec)

/-- ITS FALSE NEIGHBOUR: 'it returns false'. Refute it at one input. -/
def mappingTwiceWrong : ChangeSpec := { name := "mappingTwice", fn := fun _ => fun
  | [d1, d2] => { results := [.lit (.bool false)], args := [d1, d2] }
  | _ => none }
def MappingTwiceWrongFalsely : Prop := mappingTwiceRow.holds Tryd.pinned (OpenSpec.ofChange mappingTwiceWrong)

/-- 'namedesklaw13.MappingConcatenation': WHATEVER THE INPUT: true; the input reads as it did. -/
def mappingConcatenationSpec : ChangeSpec := { name := "mappingConcatenation", fn := fun _ => fun
  | [d1, d2, d3] => { results := [.lit (.bool true)], args := [d1, d2, d3] }
  | _ => none }
def mappingConcatenationRow : OpenClaim := { program := "ytnmckcfaalakoaadoor", sum := "468e4982d2078381600cb64a67d179a8bb178b26d3a27e328daf681f767516fb", func := "namedesk/namedesklaw13.MappingConcatenation", spec := "mappingConcatenation", unfollowed := true, recurses := true, named := ["namedesk/table.reserved"], plainKeys := false, apart := false, laid := [("namedesk/table.reserved", laid_namedesk_table_reserved)] }
def MappingConcatenationSaid : Prop := mappingConcatenationRow.holds Tryd.pinned (OpenSpec.ofChange mappingConcatenationSpec)

/-- ITS FALSE NEIGHBOUR: 'it returns false'. Refute it at one input. -/
def mappingConcatenationWrong : ChangeSpec := { name := "mappingConcatenation", fn := fun _ => fun
  | [d1, d2, d3] => { results := [.lit (.bool false)], args := [d1, d2, d3] }
  | _ => none }
def MappingConcatenationWrongFalsely : Prop := mappingConcatenationRow.holds Tryd.pinned (OpenSpec.ofChange mappingConcatenationWrong)

/-- 'namedesklaw13.MappingPermitted': WHATEVER THE INPUT: true; the input reads as it did. -/
def mappingPermittedSpec : ChangeSpec := { name := "mappingPermitted", fn := fun _ => fun
  | [d1, d2] => { results := [.lit (.bool true)], args := [d1, d2] }
  | _ => none }
def mappingPermittedRow : OpenClaim := { program := "ytnmckcfaalakoaadoor", sum := "468e4982d2078381600cb64a67d179a8bb178b26d3a27e328daf681f767516fb", func := "namedesk/namedesklaw13.MappingPermitted", spec := "mappingPermitted", unfollowed := true, recurses := true, named := ["namedesk/table.reserved"], plainKeys := false, apart := false, laid := [("namedesk/table.reserved", laid_namedesk_table_reserved)] }
def MappingPermittedSaid : Prop := mappingPermittedRow.holds Tryd.pinned (OpenSpec.ofChange mappingPermittedSpec)

/-- ITS FALSE NEIGHBOUR: 'it returns false'. Refute it at one input. -/
def mappingPermittedWrong : ChangeSpec := { name := "mappingPermitted", fn := fun _ => fun
  | [d1, d2] => { results := [.lit (.bool false)], args := [d1, d2] }
  | _ => none }
def MappingPermittedWrongFalsely : Prop := mappingPermittedRow.holds Tryd.pinned (OpenSpec.ofChange mappingPermittedWrong)

/-- 'namedesklaw13.MappingLetters': WHATEVER THE INPUT: true; the input reads as it did. -/
def mappingLettersSpec : ChangeSpec := { name := "mappingLetters", fn := fun _ => fun
  | [d1, d2] => { results := [.lit (.bool true)], args := [d1, d2] }
  | _ => none }
def mappingLettersRow : OpenClaim := { program := "ytnmckcfaalakoaadoor", sum := "468e4982d2078381600cb64a67d179a8bb178b26d3a27e328daf681f767516fb", func := "namedesk/namedesklaw13.MappingLetters", spec := "mappingLetters", unfollowed := true, recurses := true, named := ["namedesk/table.reserved"], plainKeys := false, apart := false, laid := [("namedesk/table.reserved", laid_namedesk_table_reserved)] }
def MappingLettersSaid : Prop := mappingLettersRow.holds Tryd.pinned (OpenSpec.ofChange mappingLettersSpec)

/-- ITS FALSE NEIGHBOUR: 'it returns false'. Refute it at one input. -/
def mappingLettersWrong : ChangeSpec := { name := "mappingLetters", fn := fun _ => fun
  | [d1, d2] => { results := [.lit (.bool false)], args := [d1, d2] }
  | _ => none }
def MappingLettersWrongFalsely : Prop := mappingLettersRow.holds Tryd.pinned (OpenSpec.ofChange mappingLettersWrong)

/-- 'namedesklaw13.MappingFull': WHATEVER THE INPUT: true; the input reads as it did. -/
def mappingFullSpec : ChangeSpec := { name := "mappingFull", fn := fun _ => fun
  | [d] => { results := [.lit (.bool true)], args := [d] }
  | _ => none }
def mappingFullRow : OpenClaim := { program := "ytnmckcfaalakoaadoor", sum := "468e4982d2078381600cb64a67d179a8bb178b26d3a27e328daf681f767516fb", func := "namedesk/namedesklaw13.MappingFull", spec := "mappingFull", unfollowed := true, recurses := true, named := ["namedesk/table.reserved"], plainKeys := false, apart := false, laid := [("namedesk/table.reserved", laid_namedesk_table_reserved)] }
def MappingFullSaid : Prop := mappingFullRow.holds Tryd.pinned (OpenSpec.ofChange mappingFullSpec)

/-- ITS FALSE NEIGHBOUR: 'it returns false'. Refute it at one input. -/
def mappingFullWrong : ChangeSpec := { name := "mappingFull", fn := fun _ => fun
  | [d] => { results := [.lit (.bool false)], args := [d] }
  | _ => none }
def MappingFullWrongFalsely : Prop := mappingFullRow.holds Tryd.pinned (OpenSpec.ofChange mappingFullWrong)

/- THE SECOND FORM. 'bulk': how many values and letters a reading holds, each counted each time it is reached (what is shared counts as often as it is met; a slice's spare places count too). A statement '..UptoSaid' is the law's where the arguments, and the package variables that the reading takes, are together of bulk at most 1048576: NARROWER than '..Said'. Prove '..Said' where nothing that the law and all that it calls make is longer than what came in: it says more and counts as full. Else prove '..UptoSaid'. A law counts once. -/
mutual
def uptoBulk {H : Type} : DataW H → Nat
  | .lit (.string bytes) => bytes.length + 1
  | .lit _ => 1
  | .nil => 1
  | .ptr d => uptoBulk d + 1
  | .slice elems spare => uptoBulkAll elems + uptoBulkAll spare + 1
  | .agg parts => uptoBulkAll parts + 1
  | .iface _ d => uptoBulk d + 1
  | .map entries => uptoBulkEntries entries + 1
  | .held _ => 1
def uptoBulkAll {H : Type} : List (DataW H) → Nat
  | [] => 0
  | d :: r => uptoBulk d + uptoBulkAll r
def uptoBulkEntries {H : Type} : List (Lit × DataW H) → Nat
  | [] => 0
  | x :: r => uptoBulkEntry x + uptoBulkEntries r
def uptoBulkEntry {H : Type} : Lit × DataW H → Nat
  | (.string bytes, d) => bytes.length + uptoBulk d + 1
  | (_, d) => uptoBulk d + 1
 end
def uptoSmall : (H : Type) → List (DataW H) → Bool := fun _ ds => decide (uptoBulkAll ds ≤ 1048576)
def OpenSpec.upto (s : _root_.Go.ChangeSpec) : _root_.Go.OpenSpec := { _root_.Go.OpenSpec.ofChange s with cond := some uptoSmall }

/-- 'namedesklaw13.MappingTwice', WHERE WHAT IT READS IS OF BULK AT MOST 1048576: true; the input reads as it did. -/
def mappingTwiceUptoRow : OpenClaim := { program := "ytnmckcfaalakoaadoor", sum := "468e4982d2078381600cb64a67d179a8bb178b26d3a27e328daf681f767516fb", func := "namedesk/namedesklaw13.MappingTwice", spec := "mappingTwice", unfollowed := true, recurses := true, named := ["namedesk/table.reserved"], plainKeys := false, apart := false, laid := [("namedesk/table.reserved", laid_namedesk_table_reserved)], narrowed := true }
def MappingTwiceUptoSaid : Prop := mappingTwiceUptoRow.holds Tryd.pinned (OpenSpec.upto mappingTwiceSpec)

/-- 'namedesklaw13.MappingConcatenation', WHERE WHAT IT READS IS OF BULK AT MOST 1048576: true; the input reads as it did. -/
def mappingConcatenationUptoRow : OpenClaim := { program := "ytnmckcfaalakoaadoor", sum := "468e4982d2078381600cb64a67d179a8bb178b26d3a27e328daf681f767516fb", func := "namedesk/namedesklaw13.MappingConcatenation", spec := "mappingConcatenation", unfollowed := true, recurses := true, named := ["namedesk/table.reserved"], plainKeys := false, apart := false, laid := [("namedesk/table.reserved", laid_namedesk_table_reserved)], narrowed := true }
def MappingConcatenationUptoSaid : Prop := mappingConcatenationUptoRow.holds Tryd.pinned (OpenSpec.upto mappingConcatenationSpec)

/-- 'namedesklaw13.MappingPermitted', WHERE WHAT IT READS IS OF BULK AT MOST 1048576: true; the input reads as it did. -/
def mappingPermittedUptoRow : OpenClaim := { program := "ytnmckcfaalakoaadoor", sum := "468e4982d2078381600cb64a67d179a8bb178b26d3a27e328daf681f767516fb", func := "namedesk/namedesklaw13.MappingPermitted", spec := "mappingPermitted", unfollowed := true, recurses := true, named := ["namedesk/table.reserved"], plainKeys := false, apart := false, laid := [("namedesk/table.reserved", laid_namedesk_table_reserved)], narrowed := true }
def MappingPermittedUptoSaid : Prop := mappingPermittedUptoRow.holds Tryd.pinned (OpenSpec.upto mappingPermittedSpec)

/-- 'namedesklaw13.MappingLetters', WHERE WHAT IT READS IS OF BULK AT MOST 1048576: true; the input reads as it did. -/
def mappingLettersUptoRow : OpenClaim := { program := "ytnmckcfaalakoaadoor", sum := "468e4982d2078381600cb64a67d179a8bb178b26d3a27e328daf681f767516fb", func := "namedesk/namedesklaw13.MappingLetters", spec := "mappingLetters", unfollowed := true, recurses := true, named := ["namedesk/table.reserved"], plainKeys := false, apart := false, laid := [("namedesk/table.reserved", laid_namedesk_table_reserved)], narrowed := true }
def MappingLettersUptoSaid : Prop := mappingLettersUptoRow.holds Tryd.pinned (OpenSpec.upto mappingLettersSpec)

/-- 'namedesklaw13.MappingFull', WHERE WHAT IT READS IS OF BULK AT MOST 1048576: true; the input reads as it did. -/
def mappingFullUptoRow : OpenClaim := { program := "ytnmckcfaalakoaadoor", sum := "468e4982d2078381600cb64a67d179a8bb178b26d3a27e328daf681f767516fb", func := "namedesk/namedesklaw13.MappingFull", spec := "mappingFull", unfollowed := true, recurses := true, named := ["namedesk/table.reserved"], plainKeys := false, apart := false, laid := [("namedesk/table.reserved", laid_namedesk_table_reserved)], narrowed := true }
def MappingFullUptoSaid : Prop := mappingFullUptoRow.holds Tryd.pinned (OpenSpec.upto mappingFullSpec)

end Rows
end Go.Proofs.YtnmckcfaalakoaaDoor
