/-
  NARROWER THAN 'FOR EVERY INPUT', by the rows' own cells (each row's printed sentence says how): TableOther: laid · TableProperties: laid · TableFixed: laid · TableEncode: laid · TableBack: laid · TableDecode: laid · TableDamaged: laid.
  DERIVED. THE GIVEN ROWS OF THIS SEAT. 7 by the template 'for every input the law returns true; each argument reads behind the call as it read before'; 0 by the template 'total and deterministic' (their statements: YtmkaclfjekjabaaGreatDoorTotals.lean).
  GIVEN WITH THE SEED: the statements are not yours to turn. If you find one false, say at which input.
  Laid BY PROGRAM, IN A SANDBOX (cutbox-rows.mjs): the forced cells as the released guide's own fill.sh prints them over the translation 3aaaa5f4a2c5178e… (all of the seat's roots in one cut). By AI agents, Wed Nov 11 2026. No macro, syntax, notation, axiom, sorry.
-/
import Derived.Test.YtmkaclfjekjabaaGreatDoorChecked
import GoSem.Claim
import GoSem.ClaimJoined
import GoSem.ClaimMapViews
import Derived.JoinedTies
import Derived.KernelRfl
namespace Go.Proofs.YtmkaclfjekjabaaGreatDoor
/- THE CELL 'sum', in the pinned program and in every row, IS THE sha256 OF THE DUMP (.gsa) THAT YtmkaclfjekjabaaGreatDoorProg.lean LOADS. Nothing in Lean hashes anything: it is a label: what it is worth is what the hold of that sum in a sandbox is worth. -/
noncomputable def Tryz.pinned : Pinned := { name := "ytmkaclfjekjabaagreatdoor", sum := "3aaaa5f4a2c5178ee40c9df03d17308bd3a87f9fd9e4ae17b69d68f9dd308444", checked := Tryz.checked }
namespace Rows
def none {H : Type} : Left H := { results := [], args := [] }

/- WHAT THE LISTED PACKAGE-LEVEL VARIABLES READ AS WHEN THE CALL BEGINS. Each datum BY PROGRAM (the guide's laid-datum.mjs) off the statement by which the dump's own 'gosem.cut.vars' lays the variable. In a bare row this is a premise. The card (YtmkaclfjekjabaaGreatDoorCards.lean) ties it to the program's text. -/
def laid_namedesk_table_reserved {H : Type} : DataW H := .agg [.agg [.lit (.int .i64 0), .lit (.int .i64 127)], .agg [.lit (.int .i64 4352), .lit (.int .i64 4370)], .agg [.lit (.int .i64 4449), .lit (.int .i64 4469)], .agg [.lit (.int .i64 4520), .lit (.int .i64 4546)], .agg [.lit (.int .i64 44032), .lit (.int .i64 55203)], .agg [.lit (.int .i64 55296), .lit (.int .i64 57343)]]

/-- 'namedesklaw4.TableOther': WHATEVER THE INPUT: true; the input reads as it did. -/
def tableOtherSpec : ChangeSpec := { name := "tableOther", fn := fun _ => fun
  | [d1, d2, d3, d4, d5, d6, d7] => { results := [.lit (.bool true)], args := [d1, d2, d3, d4, d5, d6, d7] }
  | _ => none }
def tableOtherRow : OpenClaim := { program := "ytmkaclfjekjabaagreatdoor", sum := "3aaaa5f4a2c5178ee40c9df03d17308bd3a87f9fd9e4ae17b69d68f9dd308444", func := "namedesk/namedesklaw4.TableOther", spec := "tableOther", unfollowed := true, recurses := true, named := ["namedesk/table.reserved"], plainKeys := false, apart := false, laid := [("namedesk/table.reserved", laid_namedesk_table_reserved)] }
def TableOtherSaid : Prop := tableOtherRow.holds Tryz.pinned (OpenSpec.ofChange tableOtherSpec)

/-- ITS FALSE NEIGHBOUR: 'it returns false'. Refute it at one input. -/
def tableOtherWrong : ChangeSpec := { name := "tableOther", fn := fun _ => fun
  | [d1, d2, d3, d4, d5, d6, d7] => { results := [.lit (.bool false)], args := [d1, d2, d3, d4, d5, d6, d7] }
  | _ => none }
def TableOtherWrongFalsely : Prop := tableOtherRow.holds Tryz.pinned (OpenSpec.ofChange tableOtherWrong)

/-- 'namedesklaw4.TableProperties': WHATEVER THE INPUT: true; the input reads as it did. -/
def tablePropertiesSpec : ChangeSpec := { name := "tableProperties", fn := fun _ => fun
  | [d1, d2, d3] => { results := [.lit (.bool true)], args := [d1, d2, d3] }
  | _ => none }
def tablePropertiesRow : OpenClaim := { program := "ytmkaclfjekjabaagreatdoor", sum := "3aaaa5f4a2c5178ee40c9df03d17308bd3a87f9fd9e4ae17b69d68f9dd308444", func := "namedesk/namedesklaw4.TableProperties", spec := "tableProperties", unfollowed := true, recurses := true, named := ["namedesk/table.reserved"], plainKeys := false, apart := false, laid := [("namedesk/table.reserved", laid_namedesk_table_reserved)] }
def TablePropertiesSaid : Prop := tablePropertiesRow.holds Tryz.pinned (OpenSpec.ofChange tablePropertiesSpec)

/-- ITS FALSE NEIGHBOUR: 'it returns false'. Refute it at one input. -/
def tablePropertiesWrong : ChangeSpec := { name := "tableProperties", fn := fun _ => fun
  | [d1, d2, d3] => { results := [.lit (.bool false)], args := [d1, d2, d3] }
  | _ => none }
def TablePropertiesWrongFalsely : Prop := tablePropertiesRow.holds Tryz.pinned (OpenSpec.ofChange tablePropertiesWrong)

/-- 'namedesklaw4.TableFixed': WHATEVER THE INPUT: true; the input reads as it did. -/
def tableFixedSpec : ChangeSpec := { name := "tableFixed", fn := fun _ => fun
  | [d1, d2] => { results := [.lit (.bool true)], args := [d1, d2] }
  | _ => none }
def tableFixedRow : OpenClaim := { program := "ytmkaclfjekjabaagreatdoor", sum := "3aaaa5f4a2c5178ee40c9df03d17308bd3a87f9fd9e4ae17b69d68f9dd308444", func := "namedesk/namedesklaw4.TableFixed", spec := "tableFixed", unfollowed := true, recurses := true, named := ["namedesk/table.reserved"], plainKeys := false, apart := false, laid := [("namedesk/table.reserved", laid_namedesk_table_reserved)] }
def TableFixedSaid : Prop := tableFixedRow.holds Tryz.pinned (OpenSpec.ofChange tableFixedSpec)

/-- ITS FALSE NEIGHBOUR: 'it returns false'. Refute it at one input. -/
def tableFixedWrong : ChangeSpec := { name := "tableFixed", fn := fun _ => fun
  | [d1, d2] => { results := [.lit (.bool false)], args := [d1, d2] }
  | _ => none }
def TableFixedWrongFalsely : Prop := tableFixedRow.holds Tryz.pinned (OpenSpec.ofChange tableFixedWrong)

/-- 'namedesklaw4.TableEncode': WHATEVER THE INPUT: true; the input reads as it did. -/
def tableEncodeSpec : ChangeSpec := { name := "tableEncode", fn := fun _ => fun
  | [d1, d2, d3, d4, d5] => { results := [.lit (.bool true)], args := [d1, d2, d3, d4, d5] }
  | _ => none }
def tableEncodeRow : OpenClaim := { program := "ytmkaclfjekjabaagreatdoor", sum := "3aaaa5f4a2c5178ee40c9df03d17308bd3a87f9fd9e4ae17b69d68f9dd308444", func := "namedesk/namedesklaw4.TableEncode", spec := "tableEncode", inPlace := ["internal/abi.NoEscape"], unfollowed := true, recurses := true, named := ["namedesk/table.reserved"], plainKeys := false, apart := false, laid := [("namedesk/table.reserved", laid_namedesk_table_reserved)] }
def TableEncodeSaid : Prop := tableEncodeRow.holds Tryz.pinned (OpenSpec.ofChange tableEncodeSpec)

/-- ITS FALSE NEIGHBOUR: 'it returns false'. Refute it at one input. -/
def tableEncodeWrong : ChangeSpec := { name := "tableEncode", fn := fun _ => fun
  | [d1, d2, d3, d4, d5] => { results := [.lit (.bool false)], args := [d1, d2, d3, d4, d5] }
  | _ => none }
def TableEncodeWrongFalsely : Prop := tableEncodeRow.holds Tryz.pinned (OpenSpec.ofChange tableEncodeWrong)

/-- 'namedesklaw4.TableBack': WHATEVER THE INPUT: true; the input reads as it did. -/
def tableBackSpec : ChangeSpec := { name := "tableBack", fn := fun _ => fun
  | [d] => { results := [.lit (.bool true)], args := [d] }
  | _ => none }
def tableBackRow : OpenClaim := { program := "ytmkaclfjekjabaagreatdoor", sum := "3aaaa5f4a2c5178ee40c9df03d17308bd3a87f9fd9e4ae17b69d68f9dd308444", func := "namedesk/namedesklaw4.TableBack", spec := "tableBack", inPlace := ["internal/abi.NoEscape"], unfollowed := true, recurses := true, named := ["namedesk/table.reserved"], plainKeys := false, apart := false, laid := [("namedesk/table.reserved", laid_namedesk_table_reserved)] }
def TableBackSaid : Prop := tableBackRow.holds Tryz.pinned (OpenSpec.ofChange tableBackSpec)

/-- ITS FALSE NEIGHBOUR: 'it returns false'. Refute it at one input. -/
def tableBackWrong : ChangeSpec := { name := "tableBack", fn := fun _ => fun
  | [d] => { results := [.lit (.bool false)], args := [d] }
  | _ => none }
def TableBackWrongFalsely : Prop := tableBackRow.holds Tryz.pinned (OpenSpec.ofChange tableBackWrong)

/-- 'namedesklaw4.TableDecode': WHATEVER THE INPUT: true; the input reads as it did. -/
def tableDecodeSpec : ChangeSpec := { name := "tableDecode", fn := fun _ => fun
  | [d1, d2, d3, d4, d5] => { results := [.lit (.bool true)], args := [d1, d2, d3, d4, d5] }
  | _ => none }
def tableDecodeRow : OpenClaim := { program := "ytmkaclfjekjabaagreatdoor", sum := "3aaaa5f4a2c5178ee40c9df03d17308bd3a87f9fd9e4ae17b69d68f9dd308444", func := "namedesk/namedesklaw4.TableDecode", spec := "tableDecode", unfollowed := true, recurses := true, named := ["namedesk/table.reserved"], plainKeys := false, apart := false, laid := [("namedesk/table.reserved", laid_namedesk_table_reserved)] }
def TableDecodeSaid : Prop := tableDecodeRow.holds Tryz.pinned (OpenSpec.ofChange tableDecodeSpec)

/-- ITS FALSE NEIGHBOUR: 'it returns false'. Refute it at one input. -/
def tableDecodeWrong : ChangeSpec := { name := "tableDecode", fn := fun _ => fun
  | [d1, d2, d3, d4, d5] => { results := [.lit (.bool false)], args := [d1, d2, d3, d4, d5] }
  | _ => none }
def TableDecodeWrongFalsely : Prop := tableDecodeRow.holds Tryz.pinned (OpenSpec.ofChange tableDecodeWrong)

/-- 'namedesklaw4.TableDamaged': WHATEVER THE INPUT: true; the input reads as it did. -/
def tableDamagedSpec : ChangeSpec := { name := "tableDamaged", fn := fun _ => fun
  | [d1, d2, d3] => { results := [.lit (.bool true)], args := [d1, d2, d3] }
  | _ => none }
def tableDamagedRow : OpenClaim := { program := "ytmkaclfjekjabaagreatdoor", sum := "3aaaa5f4a2c5178ee40c9df03d17308bd3a87f9fd9e4ae17b69d68f9dd308444", func := "namedesk/namedesklaw4.TableDamaged", spec := "tableDamaged", unfollowed := true, recurses := true, named := ["namedesk/table.reserved"], plainKeys := false, apart := false, laid := [("namedesk/table.reserved", laid_namedesk_table_reserved)] }
def TableDamagedSaid : Prop := tableDamagedRow.holds Tryz.pinned (OpenSpec.ofChange tableDamagedSpec)

/-- ITS FALSE NEIGHBOUR: 'it returns false'. Refute it at one input. -/
def tableDamagedWrong : ChangeSpec := { name := "tableDamaged", fn := fun _ => fun
  | [d1, d2, d3] => { results := [.lit (.bool false)], args := [d1, d2, d3] }
  | _ => none }
def TableDamagedWrongFalsely : Prop := tableDamagedRow.holds Tryz.pinned (OpenSpec.ofChange tableDamagedWrong)

/- THE SECOND FORM. 'bulk': how many values and letters a reading holds, each counted each time it is reached (what is shared counts as often as it is met; a slice's spare places count too). A statement '..UptoSaid' is the law's where the arguments, and the package variables that the reading takes, are together of bulk at most 1048576: NARROWER than '..Said'. Prove '..Said' where nothing that the law and all that it calls make is longer than what came in: it says more and counts as full. Else prove '..UptoSaid'. A law counts once. -/
mutual
def uptoBulk {H : Type} : DataW H → Nat
  | .lit (.string bytes) => bytes.length + 1
  | .lit _ => 1
  | .nil => 1
  | .ptr d => uptoBulk d + 1
  | .slice elems spare => uptoBulkAll elems + uptoBulkAll spare + 1
  | .agg parts => uptoBulkAll parts + 1
  | .iface _ d => uptoBulk d + 1
  | .map entries => uptoBulkEntries entries + 1
  | .held _ => 1
def uptoBulkAll {H : Type} : List (DataW H) → Nat
  | [] => 0
  | d :: r => uptoBulk d + uptoBulkAll r
def uptoBulkEntries {H : Type} : List (Lit × DataW H) → Nat
  | [] => 0
  | x :: r => uptoBulkEntry x + uptoBulkEntries r
def uptoBulkEntry {H : Type} : Lit × DataW H → Nat
  | (.string bytes, d) => bytes.length + uptoBulk d + 1
  | (_, d) => uptoBulk d + 1
 end
def uptoSmall : (H : Type) → List (DataW H) → Bool := fun _ ds => decide (uptoBulkAll ds ≤ 1048576)
def OpenSpec.upto (s : _root_.Go.ChangeSpec) : _root_.Go.OpenSpec := { _root_.Go.OpenSpec.ofChange s with cond := some uptoSmall }

/-- 'namedesklaw4.TableOther', WHERE WHAT IT READS IS OF BULK AT MOST 1048576: true; the input reads as it did. -/
def tableOtherUptoRow : OpenClaim := { program := "ytmkaclfjekjabaagreatdoor", sum := "3aaaa5f4a2c5178ee40c9df03d17308bd3a87f9fd9e4ae17b69d68f9dd308444", func := "namedesk/namedesklaw4.TableOther", spec := "tableOther", unfollowed := true, recurses := true, named := ["namedesk/table.reserved"], plainKeys := false, apart := false, laid := [("namedesk/table.reserved", laid_namedesk_table_reserved)], narrowed := true }
def TableOtherUptoSaid : Prop := tableOtherUptoRow.holds Tryz.pinned (OpenSpec.upto tableOtherSpec)

/-- 'namedesklaw4.TableProperties', WHERE WHAT IT READS IS OF BULK AT MOST 1048576: true; the input reads as it did. -/
def tablePropertiesUptoRow : OpenClaim := { program := "ytmkaclfjekjabaagreatdoor", sum := "3aaaa5f4a2c5178ee40c9df03d17308bd3a87f9fd9e4ae17b69d68f9dd308444", func := "namedesk/namedesklaw4.TableProperties", spec := "tableProperties", unfollowed := true, recurses := true, named := ["namedesk/table.reserved"], plainKeys := false, apart := false, laid := [("namedesk/table.reserved", laid_namedesk_table_reserved)], narrowed := true }
def TablePropertiesUptoSaid : Prop := tablePropertiesUptoRow.holds Tryz.pinned (OpenSpec.upto tablePropertiesSpec)

/-- 'namedesklaw4.TableFixed', WHERE WHAT IT READS IS OF BULK AT MOST 1048576: true; the input reads as it did. -/
def tableFixedUptoRow : OpenClaim := { program := "ytmkaclfjekjabaagreatdoor", sum := "3aaaa5f4a2c5178ee40c9df03d17308bd3a87f9fd9e4ae17b69d68f9dd308444", func := "namedesk/namedesklaw4.TableFixed", spec := "tableFixed", unfollowed := true, recurses := true, named := ["namedesk/table.reserved"], plainKeys := false, apart := false, laid := [("namedesk/table.reserved", laid_namedesk_table_reserved)], narrowed := true }
def TableFixedUptoSaid : Prop := tableFixedUptoRow.holds Tryz.pinned (OpenSpec.upto tableFixedSpec)

/-- 'namedesklaw4.TableEncode', WHERE WHAT IT READS IS OF BULK AT MOST 1048576: true; the input reads as it did. -/
def tableEncodeUptoRow : OpenClaim := { program := "ytmkaclfjekjabaagreatdoor", sum := "3aaaa5f4a2c5178ee40c9df03d17308bd3a87f9fd9e4ae17b69d68f9dd308444", func := "namedesk/namedesklaw4.TableEncode", spec := "tableEncode", inPlace := ["internal/abi.NoEscape"], unfollowed := true, recurses := true, named := ["namedesk/table.reserved"], plainKeys := false, apart := false, laid := [("namedesk/table.reserved", laid_namedesk_table_reserved)], narrowed := true }
def TableEncodeUptoSaid : Prop := tableEncodeUptoRow.holds Tryz.pinned (OpenSpec.upto tableEncodeSpec)

/-- 'namedesklaw4.TableBack', WHERE WHAT IT READS IS OF BULK AT MOST 1048576: true; the input reads as it did. -/
def tableBackUptoRow : OpenClaim := { program := "ytmkaclfjekjabaagreatdoor", sum := "3aaaa5f4a2c5178ee40c9df03d17308bd3a87f9fd9e4ae17b69d68f9dd308444", func := "namedesk/namedesklaw4.TableBack", spec := "tableBack", inPlace := ["internal/abi.NoEscape"], unfollowed := true, recurses := true, named := ["namedesk/table.reserved"], plainKeys := false, apart := false, laid := [("namedesk/table.reserved", laid_namedesk_table_reserved)], narrowed := true }
def TableBackUptoSaid : Prop := tableBackUptoRow.holds Tryz.pinned (OpenSpec.upto tableBackSpec)

/-- 'namedesklaw4.TableDecode', WHERE WHAT IT READS IS OF BULK AT MOST 1048576: true; the input reads as it did. -/
def tableDecodeUptoRow : OpenClaim := { program := "ytmkaclfjekjabaagreatdoor", sum := "3aaaa5f4a2c5178ee40c9df03d17308bd3a87f9fd9e4ae17b69d68f9dd308444", func := "namedesk/namedesklaw4.TableDecode", spec := "tableDecode", unfollowed := true, recurses := true, named := ["namedesk/table.reserved"], plainKeys := false, apart := false, laid := [("namedesk/table.reserved", laid_namedesk_table_reserved)], narrowed := true }
def TableDecodeUptoSaid : Prop := tableDecodeUptoRow.holds Tryz.pinned (OpenSpec.upto tableDecodeSpec)

/-- 'namedesklaw4.TableDamaged', WHERE WHAT IT READS IS OF BULK AT MOST 1048576: true; the input reads as it did. -/
def tableDamagedUptoRow : OpenClaim := { program := "ytmkaclfjekjabaagreatdoor", sum := "3aaaa5f4a2c5178ee40c9df03d17308bd3a87f9fd9e4ae17b69d68f9dd308444", func := "namedesk/namedesklaw4.TableDamaged", spec := "tableDamaged", unfollowed := true, recurses := true, named := ["namedesk/table.reserved"], plainKeys := false, apart := false, laid := [("namedesk/table.reserved", laid_namedesk_table_reserved)], narrowed := true }
def TableDamagedUptoSaid : Prop := tableDamagedUptoRow.holds Tryz.pinned (OpenSpec.upto tableDamagedSpec)

end Rows
end Go.Proofs.YtmkaclfjekjabaaGreatDoor
