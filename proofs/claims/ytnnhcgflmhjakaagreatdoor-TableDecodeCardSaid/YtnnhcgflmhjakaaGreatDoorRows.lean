/-
  NARROWER THAN 'FOR EVERY INPUT', by the rows' own cells (each row's printed sentence says how): TableDecode: laid · TableDamaged: laid · OrderMade: laid · OrderErrors: laid.
  DERIVED. THE GIVEN ROWS OF THIS SEAT. 4 by the template 'for every input the law returns true; each argument reads behind the call as it read before'; 0 by the template 'total and deterministic' (their statements: YtnnhcgflmhjakaaGreatDoorTotals.lean).
  GIVEN WITH THE SEED: the statements are not yours to turn. If you find one false, say at which input.
  Laid BY PROGRAM, IN A SANDBOX (cutbox-rows.mjs): the forced cells as the released guide's own fill.sh prints them over the translation c6e8a7fe6cf4c859… (all of the seat's roots in one cut). By AI agents, Wed Nov 11 2026. No macro, syntax, notation, axiom, sorry.
-/
import Derived.Test.YtnnhcgflmhjakaaGreatDoorChecked
import GoSem.Claim
import GoSem.ClaimJoined
import GoSem.ClaimMapViews
import Derived.JoinedTies
import Derived.KernelRfl
namespace Go.Proofs.YtnnhcgflmhjakaaGreatDoor
/- THE CELL 'sum', in the pinned program and in every row, IS THE sha256 OF THE DUMP (.gsa) THAT YtnnhcgflmhjakaaGreatDoorProg.lean LOADS. Nothing in Lean hashes anything: it is a label: what it is worth is what the hold of that sum in a sandbox is worth. -/
noncomputable def Tryz.pinned : Pinned := { name := "ytnnhcgflmhjakaagreatdoor", sum := "c6e8a7fe6cf4c8590cc2a832a68232b9386b718f73e9e20c3d5524034fe23c0f", checked := Tryz.checked }
namespace Rows
def none {H : Type} : Left H := { results := [], args := [] }

/- WHAT THE LISTED PACKAGE-LEVEL VARIABLES READ AS WHEN THE CALL BEGINS. Each datum BY PROGRAM (the guide's laid-datum.mjs) off the statement by which the dump's own 'gosem.cut.vars' lays the variable. In a bare row this is a premise. The card (YtnnhcgflmhjakaaGreatDoorCards.lean) ties it to the program's text. -/
def laid_namedesk_table_reserved {H : Type} : DataW H := .agg [.agg [.lit (.int .i64 0), .lit (.int .i64 127)], .agg [.lit (.int .i64 4352), .lit (.int .i64 4370)], .agg [.lit (.int .i64 4449), .lit (.int .i64 4469)], .agg [.lit (.int .i64 4520), .lit (.int .i64 4546)], .agg [.lit (.int .i64 44032), .lit (.int .i64 55203)], .agg [.lit (.int .i64 55296), .lit (.int .i64 57343)]]

/-- 'namedesklaw4.TableDecode': WHATEVER THE INPUT: true; the input reads as it did. -/
def tableDecodeSpec : ChangeSpec := { name := "tableDecode", fn := fun _ => fun
  | [d1, d2, d3, d4, d5] => { results := [.lit (.bool true)], args := [d1, d2, d3, d4, d5] }
  | _ => none }
def tableDecodeRow : OpenClaim := { program := "ytnnhcgflmhjakaagreatdoor", sum := "c6e8a7fe6cf4c8590cc2a832a68232b9386b718f73e9e20c3d5524034fe23c0f", func := "namedesk/namedesklaw4.TableDecode", spec := "tableDecode", unfollowed := true, recurses := true, named := ["namedesk/table.reserved"], plainKeys := false, apart := false, laid := [("namedesk/table.reserved", laid_namedesk_table_reserved)] }
def TableDecodeSaid : Prop := tableDecodeRow.holds Tryz.pinned (OpenSpec.ofChange tableDecodeSpec)

/-- ITS FALSE NEIGHBOUR: 'it returns false'. Refute it at one input. -/
def tableDecodeWrong : ChangeSpec := { name := "tableDecode", fn := fun _ => fun
  | [d1, d2, d3, d4, d5] => { results := [.lit (.bool false)], args := [d1, d2, d3, d4, d5] }
  | _ => none }
def TableDecodeWrongFalsely : Prop := tableDecodeRow.holds Tryz.pinned (OpenSpec.ofChange tableDecodeWrong)

/-- 'namedesklaw4.TableDamaged': WHATEVER THE INPUT: true; the input reads as it did. -/
def tableDamagedSpec : ChangeSpec := { name := "tableDamaged", fn := fun _ => fun
  | [d1, d2, d3] => { results := [.lit (.bool true)], args := [d1, d2, d3] }
  | _ => none }
def tableDamagedRow : OpenClaim := { program := "ytnnhcgflmhjakaagreatdoor", sum := "c6e8a7fe6cf4c8590cc2a832a68232b9386b718f73e9e20c3d5524034fe23c0f", func := "namedesk/namedesklaw4.TableDamaged", spec := "tableDamaged", unfollowed := true, recurses := true, named := ["namedesk/table.reserved"], plainKeys := false, apart := false, laid := [("namedesk/table.reserved", laid_namedesk_table_reserved)] }
def TableDamagedSaid : Prop := tableDamagedRow.holds Tryz.pinned (OpenSpec.ofChange tableDamagedSpec)

/-- ITS FALSE NEIGHBOUR: 'it returns false'. Refute it at one input. -/
def tableDamagedWrong : ChangeSpec := { name := "tableDamaged", fn := fun _ => fun
  | [d1, d2, d3] => { results := [.lit (.bool false)], args := [d1, d2, d3] }
  | _ => none }
def TableDamagedWrongFalsely : Prop := tableDamagedRow.holds Tryz.pinned (OpenSpec.ofChange tableDamagedWrong)

/-- 'namedesklaw6.OrderMade': WHATEVER THE INPUT: true; the input reads as it did. -/
def orderMadeSpec : ChangeSpec := { name := "orderMade", fn := fun _ => fun
  | [d1, d2, d3] => { results := [.lit (.bool true)], args := [d1, d2, d3] }
  | _ => none }
def orderMadeRow : OpenClaim := { program := "ytnnhcgflmhjakaagreatdoor", sum := "c6e8a7fe6cf4c8590cc2a832a68232b9386b718f73e9e20c3d5524034fe23c0f", func := "namedesk/namedesklaw6.OrderMade", spec := "orderMade", unfollowed := true, recurses := true, named := ["namedesk/table.reserved"], plainKeys := false, apart := false, laid := [("namedesk/table.reserved", laid_namedesk_table_reserved)] }
def OrderMadeSaid : Prop := orderMadeRow.holds Tryz.pinned (OpenSpec.ofChange orderMadeSpec)

/-- ITS FALSE NEIGHBOUR: 'it returns false'. Refute it at one input. -/
def orderMadeWrong : ChangeSpec := { name := "orderMade", fn := fun _ => fun
  | [d1, d2, d3] => { results := [.lit (.bool false)], args := [d1, d2, d3] }
  | _ => none }
def OrderMadeWrongFalsely : Prop := orderMadeRow.holds Tryz.pinned (OpenSpec.ofChange orderMadeWrong)

/-- 'namedesklaw6.OrderErrors': WHATEVER THE INPUT: true; the input reads as it did. -/
def orderErrorsSpec : ChangeSpec := { name := "orderErrors", fn := fun _ => fun
  | [d1, d2, d3, d4, d5, d6] => { results := [.lit (.bool true)], args := [d1, d2, d3, d4, d5, d6] }
  | _ => none }
def orderErrorsRow : OpenClaim := { program := "ytnnhcgflmhjakaagreatdoor", sum := "c6e8a7fe6cf4c8590cc2a832a68232b9386b718f73e9e20c3d5524034fe23c0f", func := "namedesk/namedesklaw6.OrderErrors", spec := "orderErrors", unfollowed := true, recurses := true, named := ["namedesk/table.reserved"], plainKeys := false, apart := false, laid := [("namedesk/table.reserved", laid_namedesk_table_reserved)] }
def OrderErrorsSaid : Prop := orderErrorsRow.holds Tryz.pinned (OpenSpec.ofChange orderErrorsSpec)

/-- ITS FALSE NEIGHBOUR: 'it returns false'. Refute it at one input. -/
def orderErrorsWrong : ChangeSpec := { name := "orderErrors", fn := fun _ => fun
  | [d1, d2, d3, d4, d5, d6] => { results := [.lit (.bool false)], args := [d1, d2, d3, d4, d5, d6] }
  | _ => none }
def OrderErrorsWrongFalsely : Prop := orderErrorsRow.holds Tryz.pinned (OpenSpec.ofChange orderErrorsWrong)

/- THE SECOND FORM. 'bulk': how many values and letters a reading holds, each counted each time it is reached (what is shared counts as often as it is met; a slice's spare places count too). A statement '..UptoSaid' is the law's where the arguments, and the package variables that the reading takes, are together of bulk at most 1048576: NARROWER than '..Said'. Prove '..Said' where nothing that the law and all that it calls make is longer than what came in: it says more and counts as full. Else prove '..UptoSaid'. A law counts once. -/
mutual
def uptoBulk {H : Type} : DataW H → Nat
  | .lit (.string bytes) => bytes.length + 1
  | .lit _ => 1
  | .nil => 1
  | .ptr d => uptoBulk d + 1
  | .slice elems spare => uptoBulkAll elems + uptoBulkAll spare + 1
  | .agg parts => uptoBulkAll parts + 1
  | .iface _ d => uptoBulk d + 1
  | .map entries => uptoBulkEntries entries + 1
  | .held _ => 1
def uptoBulkAll {H : Type} : List (DataW H) → Nat
  | [] => 0
  | d :: r => uptoBulk d + uptoBulkAll r
def uptoBulkEntries {H : Type} : List (Lit × DataW H) → Nat
  | [] => 0
  | x :: r => uptoBulkEntry x + uptoBulkEntries r
def uptoBulkEntry {H : Type} : Lit × DataW H → Nat
  | (.string bytes, d) => bytes.length + uptoBulk d + 1
  | (_, d) => uptoBulk d + 1
 end
def uptoSmall : (H : Type) → List (DataW H) → Bool := fun _ ds => decide (uptoBulkAll ds ≤ 1048576)
def OpenSpec.upto (s : _root_.Go.ChangeSpec) : _root_.Go.OpenSpec := { _root_.Go.OpenSpec.ofChange s with cond := some uptoSmall }

/-- 'namedesklaw4.TableDecode', WHERE WHAT IT READS IS OF BULK AT MOST 1048576: true; the input reads as it did. -/
def tableDecodeUptoRow : OpenClaim := { program := "ytnnhcgflmhjakaagreatdoor", sum := "c6e8a7fe6cf4c8590cc2a832a68232b9386b718f73e9e20c3d5524034fe23c0f", func := "namedesk/namedesklaw4.TableDecode", spec := "tableDecode", unfollowed := true, recurses := true, named := ["namedesk/table.reserved"], plainKeys := false, apart := false, laid := [("namedesk/table.reserved", laid_namedesk_table_reserved)], narrowed := true }
def TableDecodeUptoSaid : Prop := tableDecodeUptoRow.holds Tryz.pinned (OpenSpec.upto tableDecodeSpec)

/-- 'namedesklaw4.TableDamaged', WHERE WHAT IT READS IS OF BULK AT MOST 1048576: true; the input reads as it did. -/
def tableDamagedUptoRow : OpenClaim := { program := "ytnnhcgflmhjakaagreatdoor", sum := "c6e8a7fe6cf4c8590cc2a832a68232b9386b718f73e9e20c3d5524034fe23c0f", func := "namedesk/namedesklaw4.TableDamaged", spec := "tableDamaged", unfollowed := true, recurses := true, named := ["namedesk/table.reserved"], plainKeys := false, apart := false, laid := [("namedesk/table.reserved", laid_namedesk_table_reserved)], narrowed := true }
def TableDamagedUptoSaid : Prop := tableDamagedUptoRow.holds Tryz.pinned (OpenSpec.upto tableDamagedSpec)

/-- 'namedesklaw6.OrderMade', WHERE WHAT IT READS IS OF BULK AT MOST 1048576: true; the input reads as it did. -/
def orderMadeUptoRow : OpenClaim := { program := "ytnnhcgflmhjakaagreatdoor", sum := "c6e8a7fe6cf4c8590cc2a832a68232b9386b718f73e9e20c3d5524034fe23c0f", func := "namedesk/namedesklaw6.OrderMade", spec := "orderMade", unfollowed := true, recurses := true, named := ["namedesk/table.reserved"], plainKeys := false, apart := false, laid := [("namedesk/table.reserved", laid_namedesk_table_reserved)], narrowed := true }
def OrderMadeUptoSaid : Prop := orderMadeUptoRow.holds Tryz.pinned (OpenSpec.upto orderMadeSpec)

/-- 'namedesklaw6.OrderErrors', WHERE WHAT IT READS IS OF BULK AT MOST 1048576: true; the input reads as it did. -/
def orderErrorsUptoRow : OpenClaim := { program := "ytnnhcgflmhjakaagreatdoor", sum := "c6e8a7fe6cf4c8590cc2a832a68232b9386b718f73e9e20c3d5524034fe23c0f", func := "namedesk/namedesklaw6.OrderErrors", spec := "orderErrors", unfollowed := true, recurses := true, named := ["namedesk/table.reserved"], plainKeys := false, apart := false, laid := [("namedesk/table.reserved", laid_namedesk_table_reserved)], narrowed := true }
def OrderErrorsUptoSaid : Prop := orderErrorsUptoRow.holds Tryz.pinned (OpenSpec.upto orderErrorsSpec)

end Rows
end Go.Proofs.YtnnhcgflmhjakaaGreatDoor
