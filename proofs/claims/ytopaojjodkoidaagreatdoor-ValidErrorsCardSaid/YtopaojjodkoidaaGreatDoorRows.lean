/-
  NARROWER THAN 'FOR EVERY INPUT', by the rows' own cells (each row's printed sentence says how): ValidMade: laid · ValidErrors: laid · ValidHyphens: laid · ValidNormal: laid · ValidLetters: laid · ValidOrder: laid.
  DERIVED. THE GIVEN ROWS OF THIS SEAT. 6 by the template 'for every input the law returns true; each argument reads behind the call as it read before'; 0 by the template 'total and deterministic' (their statements: YtopaojjodkoidaaGreatDoorTotals.lean).
  GIVEN WITH THE SEED: the statements are not yours to turn. If you find one false, say at which input.
  Laid BY PROGRAM, IN A SANDBOX (cutbox-rows.mjs): the forced cells as the released guide's own fill.sh prints them over the translation 7f02672301ffc61d… (all of the seat's roots in one cut). By AI agents, Wed Nov 11 2026. No macro, syntax, notation, axiom, sorry.
-/
import Derived.Test.YtopaojjodkoidaaGreatDoorChecked
import GoSem.Claim
import GoSem.ClaimJoined
import GoSem.ClaimMapViews
import Derived.JoinedTies
import Derived.KernelRfl
namespace Go.Proofs.YtopaojjodkoidaaGreatDoor
/- THE CELL 'sum', in the pinned program and in every row, IS THE sha256 OF THE DUMP (.gsa) THAT YtopaojjodkoidaaGreatDoorProg.lean LOADS. Nothing in Lean hashes anything: it is a label: what it is worth is what the hold of that sum in a sandbox is worth. -/
noncomputable def Tryz.pinned : Pinned := { name := "ytopaojjodkoidaagreatdoor", sum := "7f02672301ffc61deee1735d8fb25ed64dc1effb2658089a298d2f36ebce8176", checked := Tryz.checked }
namespace Rows
def none {H : Type} : Left H := { results := [], args := [] }

/- WHAT THE LISTED PACKAGE-LEVEL VARIABLES READ AS WHEN THE CALL BEGINS. Each datum BY PROGRAM (the guide's laid-datum.mjs) off the statement by which the dump's own 'gosem.cut.vars' lays the variable. In a bare row this is a premise. The card (YtopaojjodkoidaaGreatDoorCards.lean) ties it to the program's text. -/
def laid_namedesk_table_reserved {H : Type} : DataW H := .agg [.agg [.lit (.int .i64 0), .lit (.int .i64 127)], .agg [.lit (.int .i64 4352), .lit (.int .i64 4370)], .agg [.lit (.int .i64 4449), .lit (.int .i64 4469)], .agg [.lit (.int .i64 4520), .lit (.int .i64 4546)], .agg [.lit (.int .i64 44032), .lit (.int .i64 55203)], .agg [.lit (.int .i64 55296), .lit (.int .i64 57343)]]

/-- 'namedesklaw17.ValidMade': WHATEVER THE INPUT: true; the input reads as it did. -/
def validMadeSpec : ChangeSpec := { name := "validMade", fn := fun _ => fun
  | [d1, d2, d3, d4] => { results := [.lit (.bool true)], args := [d1, d2, d3, d4] }
  | _ => none }
def validMadeRow : OpenClaim := { program := "ytopaojjodkoidaagreatdoor", sum := "7f02672301ffc61deee1735d8fb25ed64dc1effb2658089a298d2f36ebce8176", func := "namedesk/namedesklaw17.ValidMade", spec := "validMade", unfollowed := true, recurses := true, named := ["namedesk/table.reserved"], plainKeys := false, apart := false, laid := [("namedesk/table.reserved", laid_namedesk_table_reserved)] }
def ValidMadeSaid : Prop := validMadeRow.holds Tryz.pinned (OpenSpec.ofChange validMadeSpec)

/-- ITS FALSE NEIGHBOUR: 'it returns false'. Refute it at one input. -/
def validMadeWrong : ChangeSpec := { name := "validMade", fn := fun _ => fun
  | [d1, d2, d3, d4] => { results := [.lit (.bool false)], args := [d1, d2, d3, d4] }
  | _ => none }
def ValidMadeWrongFalsely : Prop := validMadeRow.holds Tryz.pinned (OpenSpec.ofChange validMadeWrong)

/-- 'namedesklaw17.ValidErrors': WHATEVER THE INPUT: true; the input reads as it did. -/
def validErrorsSpec : ChangeSpec := { name := "validErrors", fn := fun _ => fun
  | [d1, d2, d3, d4, d5, d6] => { results := [.lit (.bool true)], args := [d1, d2, d3, d4, d5, d6] }
  | _ => none }
def validErrorsRow : OpenClaim := { program := "ytopaojjodkoidaagreatdoor", sum := "7f02672301ffc61deee1735d8fb25ed64dc1effb2658089a298d2f36ebce8176", func := "namedesk/namedesklaw17.ValidErrors", spec := "validErrors", unfollowed := true, recurses := true, named := ["namedesk/table.reserved"], plainKeys := false, apart := false, laid := [("namedesk/table.reserved", laid_namedesk_table_reserved)] }
def ValidErrorsSaid : Prop := validErrorsRow.holds Tryz.pinned (OpenSpec.ofChange validErrorsSpec)

/-- ITS FALSE NEIGHBOUR: 'it returns false'. Refute it at one input. -/
def validErrorsWrong : ChangeSpec := { name := "validErrors", fn := fun _ => fun
  | [d1, d2, d3, d4, d5, d6] => { results := [.lit (.bool false)], args := [d1, d2, d3, d4, d5, d6] }
  | _ => none }
def ValidErrorsWrongFalsely : Prop := validErrorsRow.holds Tryz.pinned (OpenSpec.ofChange validErrorsWrong)

/-- 'namedesklaw17.ValidHyphens': WHATEVER THE INPUT: true; the input reads as it did. -/
def validHyphensSpec : ChangeSpec := { name := "validHyphens", fn := fun _ => fun
  | [d] => { results := [.lit (.bool true)], args := [d] }
  | _ => none }
def validHyphensRow : OpenClaim := { program := "ytopaojjodkoidaagreatdoor", sum := "7f02672301ffc61deee1735d8fb25ed64dc1effb2658089a298d2f36ebce8176", func := "namedesk/namedesklaw17.ValidHyphens", spec := "validHyphens", unfollowed := true, recurses := true, named := ["namedesk/table.reserved"], plainKeys := false, apart := false, laid := [("namedesk/table.reserved", laid_namedesk_table_reserved)] }
def ValidHyphensSaid : Prop := validHyphensRow.holds Tryz.pinned (OpenSpec.ofChange validHyphensSpec)

/-- ITS FALSE NEIGHBOUR: 'it returns false'. Refute it at one input. -/
def validHyphensWrong : ChangeSpec := { name := "validHyphens", fn := fun _ => fun
  | [d] => { results := [.lit (.bool false)], args := [d] }
  | _ => none }
def ValidHyphensWrongFalsely : Prop := validHyphensRow.holds Tryz.pinned (OpenSpec.ofChange validHyphensWrong)

/-- 'namedesklaw17.ValidNormal': WHATEVER THE INPUT: true; the input reads as it did. -/
def validNormalSpec : ChangeSpec := { name := "validNormal", fn := fun _ => fun
  | [d1, d2] => { results := [.lit (.bool true)], args := [d1, d2] }
  | _ => none }
def validNormalRow : OpenClaim := { program := "ytopaojjodkoidaagreatdoor", sum := "7f02672301ffc61deee1735d8fb25ed64dc1effb2658089a298d2f36ebce8176", func := "namedesk/namedesklaw17.ValidNormal", spec := "validNormal", unfollowed := true, recurses := true, named := ["namedesk/table.reserved"], plainKeys := false, apart := false, laid := [("namedesk/table.reserved", laid_namedesk_table_reserved)] }
def ValidNormalSaid : Prop := validNormalRow.holds Tryz.pinned (OpenSpec.ofChange validNormalSpec)

/-- ITS FALSE NEIGHBOUR: 'it returns false'. Refute it at one input. -/
def validNormalWrong : ChangeSpec := { name := "validNormal", fn := fun _ => fun
  | [d1, d2] => { results := [.lit (.bool false)], args := [d1, d2] }
  | _ => none }
def ValidNormalWrongFalsely : Prop := validNormalRow.holds Tryz.pinned (OpenSpec.ofChange validNormalWrong)

/-- 'namedesklaw17.ValidLetters': WHATEVER THE INPUT: true; the input reads as it did. -/
def validLettersSpec : ChangeSpec := { name := "validLetters", fn := fun _ => fun
  | [d1, d2] => { results := [.lit (.bool true)], args := [d1, d2] }
  | _ => none }
def validLettersRow : OpenClaim := { program := "ytopaojjodkoidaagreatdoor", sum := "7f02672301ffc61deee1735d8fb25ed64dc1effb2658089a298d2f36ebce8176", func := "namedesk/namedesklaw17.ValidLetters", spec := "validLetters", unfollowed := true, recurses := true, named := ["namedesk/table.reserved"], plainKeys := false, apart := false, laid := [("namedesk/table.reserved", laid_namedesk_table_reserved)] }
def ValidLettersSaid : Prop := validLettersRow.holds Tryz.pinned (OpenSpec.ofChange validLettersSpec)

/-- ITS FALSE NEIGHBOUR: 'it returns false'. Refute it at one input. -/
def validLettersWrong : ChangeSpec := { name := "validLetters", fn := fun _ => fun
  | [d1, d2] => { results := [.lit (.bool false)], args := [d1, d2] }
  | _ => none }
def ValidLettersWrongFalsely : Prop := validLettersRow.holds Tryz.pinned (OpenSpec.ofChange validLettersWrong)

/-- 'namedesklaw17.ValidOrder': WHATEVER THE INPUT: true; the input reads as it did. -/
def validOrderSpec : ChangeSpec := { name := "validOrder", fn := fun _ => fun
  | [d] => { results := [.lit (.bool true)], args := [d] }
  | _ => none }
def validOrderRow : OpenClaim := { program := "ytopaojjodkoidaagreatdoor", sum := "7f02672301ffc61deee1735d8fb25ed64dc1effb2658089a298d2f36ebce8176", func := "namedesk/namedesklaw17.ValidOrder", spec := "validOrder", unfollowed := true, recurses := true, named := ["namedesk/table.reserved"], plainKeys := false, apart := false, laid := [("namedesk/table.reserved", laid_namedesk_table_reserved)] }
def ValidOrderSaid : Prop := validOrderRow.holds Tryz.pinned (OpenSpec.ofChange validOrderSpec)

/-- ITS FALSE NEIGHBOUR: 'it returns false'. Refute it at one input. -/
def validOrderWrong : ChangeSpec := { name := "validOrder", fn := fun _ => fun
  | [d] => { results := [.lit (.bool false)], args := [d] }
  | _ => none }
def ValidOrderWrongFalsely : Prop := validOrderRow.holds Tryz.pinned (OpenSpec.ofChange validOrderWrong)

/- THE SECOND FORM. 'bulk': how many values and letters a reading holds, each counted each time it is reached (what is shared counts as often as it is met; a slice's spare places count too). A statement '..UptoSaid' is the law's where the arguments, and the package variables that the reading takes, are together of bulk at most 1048576: NARROWER than '..Said'. Prove '..Said' where nothing that the law and all that it calls make is longer than what came in: it says more and counts as full. Else prove '..UptoSaid'. A law counts once. -/
mutual
def uptoBulk {H : Type} : DataW H → Nat
  | .lit (.string bytes) => bytes.length + 1
  | .lit _ => 1
  | .nil => 1
  | .ptr d => uptoBulk d + 1
  | .slice elems spare => uptoBulkAll elems + uptoBulkAll spare + 1
  | .agg parts => uptoBulkAll parts + 1
  | .iface _ d => uptoBulk d + 1
  | .map entries => uptoBulkEntries entries + 1
  | .held _ => 1
def uptoBulkAll {H : Type} : List (DataW H) → Nat
  | [] => 0
  | d :: r => uptoBulk d + uptoBulkAll r
def uptoBulkEntries {H : Type} : List (Lit × DataW H) → Nat
  | [] => 0
  | x :: r => uptoBulkEntry x + uptoBulkEntries r
def uptoBulkEntry {H : Type} : Lit × DataW H → Nat
  | (.string bytes, d) => bytes.length + uptoBulk d + 1
  | (_, d) => uptoBulk d + 1
 end
def uptoSmall : (H : Type) → List (DataW H) → Bool := fun _ ds => decide (uptoBulkAll ds ≤ 1048576)
def OpenSpec.upto (s : _root_.Go.ChangeSpec) : _root_.Go.OpenSpec := { _root_.Go.OpenSpec.ofChange s with cond := some uptoSmall }

/-- 'namedesklaw17.ValidMade', WHERE WHAT IT READS IS OF BULK AT MOST 1048576: true; the input reads as it did. -/
def validMadeUptoRow : OpenClaim := { program := "ytopaojjodkoidaagreatdoor", sum := "7f02672301ffc61deee1735d8fb25ed64dc1effb2658089a298d2f36ebce8176", func := "namedesk/namedesklaw17.ValidMade", spec := "validMade", unfollowed := true, recurses := true, named := ["namedesk/table.reserved"], plainKeys := false, apart := false, laid := [("namedesk/table.reserved", laid_namedesk_table_reserved)], narrowed := true }
def ValidMadeUptoSaid : Prop := validMadeUptoRow.holds Tryz.pinned (OpenSpec.upto validMadeSpec)

/-- 'namedesklaw17.ValidErrors', WHERE WHAT IT READS IS OF BULK AT MOST 1048576: true; the input reads as it did. -/
def validErrorsUptoRow : OpenClaim := { program := "ytopaojjodkoidaagreatdoor", sum := "7f02672301ffc61deee1735d8fb25ed64dc1effb2658089a298d2f36ebce8176", func := "namedesk/namedesklaw17.ValidErrors", spec := "validErrors", unfollowed := true, recurses := true, named := ["namedesk/table.reserved"], plainKeys := false, apart := false, laid := [("namedesk/table.reserved", laid_namedesk_table_reserved)], narrowed := true }
def ValidErrorsUptoSaid : Prop := validErrorsUptoRow.holds Tryz.pinned (OpenSpec.upto validErrorsSpec)

/-- 'namedesklaw17.ValidHyphens', WHERE WHAT IT READS IS OF BULK AT MOST 1048576: true; the input reads as it did. -/
def validHyphensUptoRow : OpenClaim := { program := "ytopaojjodkoidaagreatdoor", sum := "7f02672301ffc61deee1735d8fb25ed64dc1effb2658089a298d2f36ebce8176", func := "namedesk/namedesklaw17.ValidHyphens", spec := "validHyphens", unfollowed := true, recurses := true, named := ["namedesk/table.reserved"], plainKeys := false, apart := false, laid := [("namedesk/table.reserved", laid_namedesk_table_reserved)], narrowed := true }
def ValidHyphensUptoSaid : Prop := validHyphensUptoRow.holds Tryz.pinned (OpenSpec.upto validHyphensSpec)

/-- 'namedesklaw17.ValidNormal', WHERE WHAT IT READS IS OF BULK AT MOST 1048576: true; the input reads as it did. -/
def validNormalUptoRow : OpenClaim := { program := "ytopaojjodkoidaagreatdoor", sum := "7f02672301ffc61deee1735d8fb25ed64dc1effb2658089a298d2f36ebce8176", func := "namedesk/namedesklaw17.ValidNormal", spec := "validNormal", unfollowed := true, recurses := true, named := ["namedesk/table.reserved"], plainKeys := false, apart := false, laid := [("namedesk/table.reserved", laid_namedesk_table_reserved)], narrowed := true }
def ValidNormalUptoSaid : Prop := validNormalUptoRow.holds Tryz.pinned (OpenSpec.upto validNormalSpec)

/-- 'namedesklaw17.ValidLetters', WHERE WHAT IT READS IS OF BULK AT MOST 1048576: true; the input reads as it did. -/
def validLettersUptoRow : OpenClaim := { program := "ytopaojjodkoidaagreatdoor", sum := "7f02672301ffc61deee1735d8fb25ed64dc1effb2658089a298d2f36ebce8176", func := "namedesk/namedesklaw17.ValidLetters", spec := "validLetters", unfollowed := true, recurses := true, named := ["namedesk/table.reserved"], plainKeys := false, apart := false, laid := [("namedesk/table.reserved", laid_namedesk_table_reserved)], narrowed := true }
def ValidLettersUptoSaid : Prop := validLettersUptoRow.holds Tryz.pinned (OpenSpec.upto validLettersSpec)

/-- 'namedesklaw17.ValidOrder', WHERE WHAT IT READS IS OF BULK AT MOST 1048576: true; the input reads as it did. -/
def validOrderUptoRow : OpenClaim := { program := "ytopaojjodkoidaagreatdoor", sum := "7f02672301ffc61deee1735d8fb25ed64dc1effb2658089a298d2f36ebce8176", func := "namedesk/namedesklaw17.ValidOrder", spec := "validOrder", unfollowed := true, recurses := true, named := ["namedesk/table.reserved"], plainKeys := false, apart := false, laid := [("namedesk/table.reserved", laid_namedesk_table_reserved)], narrowed := true }
def ValidOrderUptoSaid : Prop := validOrderUptoRow.holds Tryz.pinned (OpenSpec.upto validOrderSpec)

end Rows
end Go.Proofs.YtopaojjodkoidaaGreatDoor
