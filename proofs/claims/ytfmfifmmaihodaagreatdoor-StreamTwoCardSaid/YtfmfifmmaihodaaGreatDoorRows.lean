/-
  NARROWER THAN 'FOR EVERY INPUT', by the rows' own cells (each row's printed sentence says how): StreamNew: laid · StreamPush: laid · StreamWhole: laid · StreamRefused: laid · StreamBoundary: laid · StreamTwo: laid.
  DERIVED. THE GIVEN ROWS OF THIS SEAT. 6 by the template 'for every input the law returns true; each argument reads behind the call as it read before'; 0 by the template 'total and deterministic' (their statements: YtfmfifmmaihodaaGreatDoorTotals.lean).
  GIVEN WITH THE SEED: the statements are not yours to turn. If you find one false, say at which input.
  Laid BY PROGRAM, IN A SANDBOX (cutbox-rows.mjs): the forced cells as the released guide's own fill.sh prints them over the translation 5e6442a5f5d1a4cb… (all of the seat's roots in one cut). By AI agents, Wed Nov 11 2026. No macro, syntax, notation, axiom, sorry.
-/
import Derived.Test.YtfmfifmmaihodaaGreatDoorChecked
import GoSem.Claim
import GoSem.ClaimJoined
import GoSem.ClaimMapViews
import Derived.JoinedTies
import Derived.KernelRfl
namespace Go.Proofs.YtfmfifmmaihodaaGreatDoor
/- THE CELL 'sum', in the pinned program and in every row, IS THE sha256 OF THE DUMP (.gsa) THAT YtfmfifmmaihodaaGreatDoorProg.lean LOADS. Nothing in Lean hashes anything: it is a label: what it is worth is what the hold of that sum in a sandbox is worth. -/
noncomputable def Tryz.pinned : Pinned := { name := "ytfmfifmmaihodaagreatdoor", sum := "5e6442a5f5d1a4cb303a6e700e2623d32dda8e755b47ea70f65d7c0c3b6a8bb3", checked := Tryz.checked }
namespace Rows
def none {H : Type} : Left H := { results := [], args := [] }

/- WHAT THE LISTED PACKAGE-LEVEL VARIABLES READ AS WHEN THE CALL BEGINS. Each datum BY PROGRAM (the guide's laid-datum.mjs) off the statement by which the dump's own 'gosem.cut.vars' lays the variable. In a bare row this is a premise. The card (YtfmfifmmaihodaaGreatDoorCards.lean) ties it to the program's text. -/
def laid_namedesk_table_reserved {H : Type} : DataW H := .agg [.agg [.lit (.int .i64 0), .lit (.int .i64 127)], .agg [.lit (.int .i64 4352), .lit (.int .i64 4370)], .agg [.lit (.int .i64 4449), .lit (.int .i64 4469)], .agg [.lit (.int .i64 4520), .lit (.int .i64 4546)], .agg [.lit (.int .i64 44032), .lit (.int .i64 55203)], .agg [.lit (.int .i64 55296), .lit (.int .i64 57343)]]

/-- 'namedesklaw9.StreamNew': WHATEVER THE INPUT: true; the input reads as it did. -/
def streamNewSpec : ChangeSpec := { name := "streamNew", fn := fun _ => fun
  | [d1, d2, d3, d4, d5, d6, d7] => { results := [.lit (.bool true)], args := [d1, d2, d3, d4, d5, d6, d7] }
  | _ => none }
def streamNewRow : OpenClaim := { program := "ytfmfifmmaihodaagreatdoor", sum := "5e6442a5f5d1a4cb303a6e700e2623d32dda8e755b47ea70f65d7c0c3b6a8bb3", func := "namedesk/namedesklaw9.StreamNew", spec := "streamNew", unfollowed := true, recurses := true, named := ["namedesk/table.reserved"], plainKeys := false, apart := false, laid := [("namedesk/table.reserved", laid_namedesk_table_reserved)] }
def StreamNewSaid : Prop := streamNewRow.holds Tryz.pinned (OpenSpec.ofChange streamNewSpec)

/-- ITS FALSE NEIGHBOUR: 'it returns false'. Refute it at one input. -/
def streamNewWrong : ChangeSpec := { name := "streamNew", fn := fun _ => fun
  | [d1, d2, d3, d4, d5, d6, d7] => { results := [.lit (.bool false)], args := [d1, d2, d3, d4, d5, d6, d7] }
  | _ => none }
def StreamNewWrongFalsely : Prop := streamNewRow.holds Tryz.pinned (OpenSpec.ofChange streamNewWrong)

/-- 'namedesklaw9.StreamPush': WHATEVER THE INPUT: true; the input reads as it did. -/
def streamPushSpec : ChangeSpec := { name := "streamPush", fn := fun _ => fun
  | [d1, d2, d3, d4] => { results := [.lit (.bool true)], args := [d1, d2, d3, d4] }
  | _ => none }
def streamPushRow : OpenClaim := { program := "ytfmfifmmaihodaagreatdoor", sum := "5e6442a5f5d1a4cb303a6e700e2623d32dda8e755b47ea70f65d7c0c3b6a8bb3", func := "namedesk/namedesklaw9.StreamPush", spec := "streamPush", unfollowed := true, recurses := true, named := ["namedesk/table.reserved"], plainKeys := false, apart := false, laid := [("namedesk/table.reserved", laid_namedesk_table_reserved)] }
def StreamPushSaid : Prop := streamPushRow.holds Tryz.pinned (OpenSpec.ofChange streamPushSpec)

/-- ITS FALSE NEIGHBOUR: 'it returns false'. Refute it at one input. -/
def streamPushWrong : ChangeSpec := { name := "streamPush", fn := fun _ => fun
  | [d1, d2, d3, d4] => { results := [.lit (.bool false)], args := [d1, d2, d3, d4] }
  | _ => none }
def StreamPushWrongFalsely : Prop := streamPushRow.holds Tryz.pinned (OpenSpec.ofChange streamPushWrong)

/-- 'namedesklaw9.StreamWhole': WHATEVER THE INPUT: true; the input reads as it did. -/
def streamWholeSpec : ChangeSpec := { name := "streamWhole", fn := fun _ => fun
  | [d1, d2] => { results := [.lit (.bool true)], args := [d1, d2] }
  | _ => none }
def streamWholeRow : OpenClaim := { program := "ytfmfifmmaihodaagreatdoor", sum := "5e6442a5f5d1a4cb303a6e700e2623d32dda8e755b47ea70f65d7c0c3b6a8bb3", func := "namedesk/namedesklaw9.StreamWhole", spec := "streamWhole", unfollowed := true, recurses := true, named := ["namedesk/table.reserved"], plainKeys := false, apart := false, laid := [("namedesk/table.reserved", laid_namedesk_table_reserved)] }
def StreamWholeSaid : Prop := streamWholeRow.holds Tryz.pinned (OpenSpec.ofChange streamWholeSpec)

/-- ITS FALSE NEIGHBOUR: 'it returns false'. Refute it at one input. -/
def streamWholeWrong : ChangeSpec := { name := "streamWhole", fn := fun _ => fun
  | [d1, d2] => { results := [.lit (.bool false)], args := [d1, d2] }
  | _ => none }
def StreamWholeWrongFalsely : Prop := streamWholeRow.holds Tryz.pinned (OpenSpec.ofChange streamWholeWrong)

/-- 'namedesklaw9.StreamRefused': WHATEVER THE INPUT: true; the input reads as it did. -/
def streamRefusedSpec : ChangeSpec := { name := "streamRefused", fn := fun _ => fun
  | [d1, d2, d3] => { results := [.lit (.bool true)], args := [d1, d2, d3] }
  | _ => none }
def streamRefusedRow : OpenClaim := { program := "ytfmfifmmaihodaagreatdoor", sum := "5e6442a5f5d1a4cb303a6e700e2623d32dda8e755b47ea70f65d7c0c3b6a8bb3", func := "namedesk/namedesklaw9.StreamRefused", spec := "streamRefused", unfollowed := true, recurses := true, named := ["namedesk/table.reserved"], plainKeys := false, apart := false, laid := [("namedesk/table.reserved", laid_namedesk_table_reserved)] }
def StreamRefusedSaid : Prop := streamRefusedRow.holds Tryz.pinned (OpenSpec.ofChange streamRefusedSpec)

/-- ITS FALSE NEIGHBOUR: 'it returns false'. Refute it at one input. -/
def streamRefusedWrong : ChangeSpec := { name := "streamRefused", fn := fun _ => fun
  | [d1, d2, d3] => { results := [.lit (.bool false)], args := [d1, d2, d3] }
  | _ => none }
def StreamRefusedWrongFalsely : Prop := streamRefusedRow.holds Tryz.pinned (OpenSpec.ofChange streamRefusedWrong)

/-- 'namedesklaw9.StreamBoundary': WHATEVER THE INPUT: true; the input reads as it did. -/
def streamBoundarySpec : ChangeSpec := { name := "streamBoundary", fn := fun _ => fun
  | [d1, d2, d3] => { results := [.lit (.bool true)], args := [d1, d2, d3] }
  | _ => none }
def streamBoundaryRow : OpenClaim := { program := "ytfmfifmmaihodaagreatdoor", sum := "5e6442a5f5d1a4cb303a6e700e2623d32dda8e755b47ea70f65d7c0c3b6a8bb3", func := "namedesk/namedesklaw9.StreamBoundary", spec := "streamBoundary", unfollowed := true, recurses := true, named := ["namedesk/table.reserved"], plainKeys := false, apart := false, laid := [("namedesk/table.reserved", laid_namedesk_table_reserved)] }
def StreamBoundarySaid : Prop := streamBoundaryRow.holds Tryz.pinned (OpenSpec.ofChange streamBoundarySpec)

/-- ITS FALSE NEIGHBOUR: 'it returns false'. Refute it at one input. -/
def streamBoundaryWrong : ChangeSpec := { name := "streamBoundary", fn := fun _ => fun
  | [d1, d2, d3] => { results := [.lit (.bool false)], args := [d1, d2, d3] }
  | _ => none }
def StreamBoundaryWrongFalsely : Prop := streamBoundaryRow.holds Tryz.pinned (OpenSpec.ofChange streamBoundaryWrong)

/-- 'namedesklaw9.StreamTwo': WHATEVER THE INPUT: true; the input reads as it did. -/
def streamTwoSpec : ChangeSpec := { name := "streamTwo", fn := fun _ => fun
  | [d1, d2, d3] => { results := [.lit (.bool true)], args := [d1, d2, d3] }
  | _ => none }
def streamTwoRow : OpenClaim := { program := "ytfmfifmmaihodaagreatdoor", sum := "5e6442a5f5d1a4cb303a6e700e2623d32dda8e755b47ea70f65d7c0c3b6a8bb3", func := "namedesk/namedesklaw9.StreamTwo", spec := "streamTwo", unfollowed := true, recurses := true, named := ["namedesk/table.reserved"], plainKeys := false, apart := false, laid := [("namedesk/table.reserved", laid_namedesk_table_reserved)] }
def StreamTwoSaid : Prop := streamTwoRow.holds Tryz.pinned (OpenSpec.ofChange streamTwoSpec)

/-- ITS FALSE NEIGHBOUR: 'it returns false'. Refute it at one input. -/
def streamTwoWrong : ChangeSpec := { name := "streamTwo", fn := fun _ => fun
  | [d1, d2, d3] => { results := [.lit (.bool false)], args := [d1, d2, d3] }
  | _ => none }
def StreamTwoWrongFalsely : Prop := streamTwoRow.holds Tryz.pinned (OpenSpec.ofChange streamTwoWrong)

/- THE SECOND FORM. 'bulk': how many values and letters a reading holds, each counted each time it is reached (what is shared counts as often as it is met; a slice's spare places count too). A statement '..UptoSaid' is the law's where the arguments, and the package variables that the reading takes, are together of bulk at most 1048576: NARROWER than '..Said'. Prove '..Said' where nothing that the law and all that it calls make is longer than what came in: it says more and counts as full. Else prove '..UptoSaid'. A law counts once. -/
mutual
def uptoBulk {H : Type} : DataW H → Nat
  | .lit (.string bytes) => bytes.length + 1
  | .lit _ => 1
  | .nil => 1
  | .ptr d => uptoBulk d + 1
  | .slice elems spare => uptoBulkAll elems + uptoBulkAll spare + 1
  | .agg parts => uptoBulkAll parts + 1
  | .iface _ d => uptoBulk d + 1
  | .map entries => uptoBulkEntries entries + 1
  | .held _ => 1
def uptoBulkAll {H : Type} : List (DataW H) → Nat
  | [] => 0
  | d :: r => uptoBulk d + uptoBulkAll r
def uptoBulkEntries {H : Type} : List (Lit × DataW H) → Nat
  | [] => 0
  | x :: r => uptoBulkEntry x + uptoBulkEntries r
def uptoBulkEntry {H : Type} : Lit × DataW H → Nat
  | (.string bytes, d) => bytes.length + uptoBulk d + 1
  | (_, d) => uptoBulk d + 1
 end
def uptoSmall : (H : Type) → List (DataW H) → Bool := fun _ ds => decide (uptoBulkAll ds ≤ 1048576)
def OpenSpec.upto (s : _root_.Go.ChangeSpec) : _root_.Go.OpenSpec := { _root_.Go.OpenSpec.ofChange s with cond := some uptoSmall }

/-- 'namedesklaw9.StreamNew', WHERE WHAT IT READS IS OF BULK AT MOST 1048576: true; the input reads as it did. -/
def streamNewUptoRow : OpenClaim := { program := "ytfmfifmmaihodaagreatdoor", sum := "5e6442a5f5d1a4cb303a6e700e2623d32dda8e755b47ea70f65d7c0c3b6a8bb3", func := "namedesk/namedesklaw9.StreamNew", spec := "streamNew", unfollowed := true, recurses := true, named := ["namedesk/table.reserved"], plainKeys := false, apart := false, laid := [("namedesk/table.reserved", laid_namedesk_table_reserved)], narrowed := true }
def StreamNewUptoSaid : Prop := streamNewUptoRow.holds Tryz.pinned (OpenSpec.upto streamNewSpec)

/-- 'namedesklaw9.StreamPush', WHERE WHAT IT READS IS OF BULK AT MOST 1048576: true; the input reads as it did. -/
def streamPushUptoRow : OpenClaim := { program := "ytfmfifmmaihodaagreatdoor", sum := "5e6442a5f5d1a4cb303a6e700e2623d32dda8e755b47ea70f65d7c0c3b6a8bb3", func := "namedesk/namedesklaw9.StreamPush", spec := "streamPush", unfollowed := true, recurses := true, named := ["namedesk/table.reserved"], plainKeys := false, apart := false, laid := [("namedesk/table.reserved", laid_namedesk_table_reserved)], narrowed := true }
def StreamPushUptoSaid : Prop := streamPushUptoRow.holds Tryz.pinned (OpenSpec.upto streamPushSpec)

/-- 'namedesklaw9.StreamWhole', WHERE WHAT IT READS IS OF BULK AT MOST 1048576: true; the input reads as it did. -/
def streamWholeUptoRow : OpenClaim := { program := "ytfmfifmmaihodaagreatdoor", sum := "5e6442a5f5d1a4cb303a6e700e2623d32dda8e755b47ea70f65d7c0c3b6a8bb3", func := "namedesk/namedesklaw9.StreamWhole", spec := "streamWhole", unfollowed := true, recurses := true, named := ["namedesk/table.reserved"], plainKeys := false, apart := false, laid := [("namedesk/table.reserved", laid_namedesk_table_reserved)], narrowed := true }
def StreamWholeUptoSaid : Prop := streamWholeUptoRow.holds Tryz.pinned (OpenSpec.upto streamWholeSpec)

/-- 'namedesklaw9.StreamRefused', WHERE WHAT IT READS IS OF BULK AT MOST 1048576: true; the input reads as it did. -/
def streamRefusedUptoRow : OpenClaim := { program := "ytfmfifmmaihodaagreatdoor", sum := "5e6442a5f5d1a4cb303a6e700e2623d32dda8e755b47ea70f65d7c0c3b6a8bb3", func := "namedesk/namedesklaw9.StreamRefused", spec := "streamRefused", unfollowed := true, recurses := true, named := ["namedesk/table.reserved"], plainKeys := false, apart := false, laid := [("namedesk/table.reserved", laid_namedesk_table_reserved)], narrowed := true }
def StreamRefusedUptoSaid : Prop := streamRefusedUptoRow.holds Tryz.pinned (OpenSpec.upto streamRefusedSpec)

/-- 'namedesklaw9.StreamBoundary', WHERE WHAT IT READS IS OF BULK AT MOST 1048576: true; the input reads as it did. -/
def streamBoundaryUptoRow : OpenClaim := { program := "ytfmfifmmaihodaagreatdoor", sum := "5e6442a5f5d1a4cb303a6e700e2623d32dda8e755b47ea70f65d7c0c3b6a8bb3", func := "namedesk/namedesklaw9.StreamBoundary", spec := "streamBoundary", unfollowed := true, recurses := true, named := ["namedesk/table.reserved"], plainKeys := false, apart := false, laid := [("namedesk/table.reserved", laid_namedesk_table_reserved)], narrowed := true }
def StreamBoundaryUptoSaid : Prop := streamBoundaryUptoRow.holds Tryz.pinned (OpenSpec.upto streamBoundarySpec)

/-- 'namedesklaw9.StreamTwo', WHERE WHAT IT READS IS OF BULK AT MOST 1048576: true; the input reads as it did. -/
def streamTwoUptoRow : OpenClaim := { program := "ytfmfifmmaihodaagreatdoor", sum := "5e6442a5f5d1a4cb303a6e700e2623d32dda8e755b47ea70f65d7c0c3b6a8bb3", func := "namedesk/namedesklaw9.StreamTwo", spec := "streamTwo", unfollowed := true, recurses := true, named := ["namedesk/table.reserved"], plainKeys := false, apart := false, laid := [("namedesk/table.reserved", laid_namedesk_table_reserved)], narrowed := true }
def StreamTwoUptoSaid : Prop := streamTwoUptoRow.holds Tryz.pinned (OpenSpec.upto streamTwoSpec)

end Rows
end Go.Proofs.YtfmfifmmaihodaaGreatDoor
