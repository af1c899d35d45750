/-
  No cell of these rows narrows 'for every input' (looked for: loops, veiled, ifaces, maps, wideKeys, modest, calm, conditions, laid).
  DERIVED. THE GIVEN ROWS OF THIS SEAT. 5 by the template 'for every input the law returns true; each argument reads behind the call as it read before'; 0 by the template 'total and deterministic' (their statements: YtmnnpfohjffniaaTotals.lean).
  GIVEN WITH THE SEED: the statements are not yours to turn. If you find one false, say at which input.
  Laid BY PROGRAM, IN A SANDBOX (cutbox-rows.mjs): the forced cells as the released guide's own fill.sh prints them over the translation e245b9cc2e26e2b5… (all of the seat's roots in one cut). By AI agents, Wed Nov 11 2026. No macro, syntax, notation, axiom, sorry.
-/
import Derived.Test.YtmnnpfohjffniaaChecked
import GoSem.Claim
import GoSem.ClaimJoined
import GoSem.ClaimMapViews
import Derived.JoinedTies
import Derived.KernelRfl
namespace Go.Proofs.Ytmnnpfohjffniaa
/- THE CELL 'sum', in the pinned program and in every row, IS THE sha256 OF THE DUMP (.gsa) THAT YtmnnpfohjffniaaProg.lean LOADS. Nothing in Lean hashes anything: it is a label: what it is worth is what the hold of that sum in a sandbox is worth. -/
noncomputable def Try.pinned : Pinned := { name := "ytmnnpfohjffniaa", sum := "e245b9cc2e26e2b515a1829fb7e10038bebd7c207f868bad53493fa9d07304b1", checked := Try.checked }
namespace Rows
def none {H : Type} : Left H := { results := [], args := [] }

/-- 'namedesklaw11.AlabelEncode': WHATEVER THE INPUT: true; the input reads as it did. -/
def alabelEncodeSpec : ChangeSpec := { name := "alabelEncode", fn := fun _ => fun
  | [d1, d2, d3] => { results := [.lit (.bool true)], args := [d1, d2, d3] }
  | _ => none }
def alabelEncodeRow : OpenClaim := { program := "ytmnnpfohjffniaa", sum := "e245b9cc2e26e2b515a1829fb7e10038bebd7c207f868bad53493fa9d07304b1", func := "namedesk/namedesklaw11.AlabelEncode", spec := "alabelEncode", inPlace := ["slices.overlaps[int]"], unfollowed := true, recurses := true, apart := false }
def AlabelEncodeSaid : Prop := alabelEncodeRow.holds Try.pinned (OpenSpec.ofChange alabelEncodeSpec)

/-- ITS FALSE NEIGHBOUR: 'it returns false'. Refute it at one input. -/
def alabelEncodeWrong : ChangeSpec := { name := "alabelEncode", fn := fun _ => fun
  | [d1, d2, d3] => { results := [.lit (.bool false)], args := [d1, d2, d3] }
  | _ => none }
def AlabelEncodeWrongFalsely : Prop := alabelEncodeRow.holds Try.pinned (OpenSpec.ofChange alabelEncodeWrong)

/-- 'namedesklaw11.AlabelBack': WHATEVER THE INPUT: true; the input reads as it did. -/
def alabelBackSpec : ChangeSpec := { name := "alabelBack", fn := fun _ => fun
  | [d] => { results := [.lit (.bool true)], args := [d] }
  | _ => none }
def alabelBackRow : OpenClaim := { program := "ytmnnpfohjffniaa", sum := "e245b9cc2e26e2b515a1829fb7e10038bebd7c207f868bad53493fa9d07304b1", func := "namedesk/namedesklaw11.AlabelBack", spec := "alabelBack", inPlace := ["slices.overlaps[int]"], unfollowed := true, recurses := true, apart := false }
def AlabelBackSaid : Prop := alabelBackRow.holds Try.pinned (OpenSpec.ofChange alabelBackSpec)

/-- ITS FALSE NEIGHBOUR: 'it returns false'. Refute it at one input. -/
def alabelBackWrong : ChangeSpec := { name := "alabelBack", fn := fun _ => fun
  | [d] => { results := [.lit (.bool false)], args := [d] }
  | _ => none }
def AlabelBackWrongFalsely : Prop := alabelBackRow.holds Try.pinned (OpenSpec.ofChange alabelBackWrong)

/-- 'namedesklaw11.AlabelUnique': WHATEVER THE INPUT: true; the input reads as it did. -/
def alabelUniqueSpec : ChangeSpec := { name := "alabelUnique", fn := fun _ => fun
  | [d1, d2] => { results := [.lit (.bool true)], args := [d1, d2] }
  | _ => none }
def alabelUniqueRow : OpenClaim := { program := "ytmnnpfohjffniaa", sum := "e245b9cc2e26e2b515a1829fb7e10038bebd7c207f868bad53493fa9d07304b1", func := "namedesk/namedesklaw11.AlabelUnique", spec := "alabelUnique", inPlace := ["slices.overlaps[int]"], unfollowed := true, recurses := true, apart := false }
def AlabelUniqueSaid : Prop := alabelUniqueRow.holds Try.pinned (OpenSpec.ofChange alabelUniqueSpec)

/-- ITS FALSE NEIGHBOUR: 'it returns false'. Refute it at one input. -/
def alabelUniqueWrong : ChangeSpec := { name := "alabelUnique", fn := fun _ => fun
  | [d1, d2] => { results := [.lit (.bool false)], args := [d1, d2] }
  | _ => none }
def AlabelUniqueWrongFalsely : Prop := alabelUniqueRow.holds Try.pinned (OpenSpec.ofChange alabelUniqueWrong)

/-- 'namedesklaw11.AlabelLimits': WHATEVER THE INPUT: true; the input reads as it did. -/
def alabelLimitsSpec : ChangeSpec := { name := "alabelLimits", fn := fun _ => fun
  | [d1, d2] => { results := [.lit (.bool true)], args := [d1, d2] }
  | _ => none }
def alabelLimitsRow : OpenClaim := { program := "ytmnnpfohjffniaa", sum := "e245b9cc2e26e2b515a1829fb7e10038bebd7c207f868bad53493fa9d07304b1", func := "namedesk/namedesklaw11.AlabelLimits", spec := "alabelLimits", inPlace := ["slices.overlaps[int]"], unfollowed := true, recurses := true, apart := false }
def AlabelLimitsSaid : Prop := alabelLimitsRow.holds Try.pinned (OpenSpec.ofChange alabelLimitsSpec)

/-- ITS FALSE NEIGHBOUR: 'it returns false'. Refute it at one input. -/
def alabelLimitsWrong : ChangeSpec := { name := "alabelLimits", fn := fun _ => fun
  | [d1, d2] => { results := [.lit (.bool false)], args := [d1, d2] }
  | _ => none }
def AlabelLimitsWrongFalsely : Prop := alabelLimitsRow.holds Try.pinned (OpenSpec.ofChange alabelLimitsWrong)

/-- 'namedesklaw11.AlabelLower': WHATEVER THE INPUT: true; the input reads as it did. -/
def alabelLowerSpec : ChangeSpec := { name := "alabelLower", fn := fun _ => fun
  | [d] => { results := [.lit (.bool true)], args := [d] }
  | _ => none }
def alabelLowerRow : OpenClaim := { program := "ytmnnpfohjffniaa", sum := "e245b9cc2e26e2b515a1829fb7e10038bebd7c207f868bad53493fa9d07304b1", func := "namedesk/namedesklaw11.AlabelLower", spec := "alabelLower", inPlace := ["slices.overlaps[int]"], unfollowed := true, recurses := true, apart := false }
def AlabelLowerSaid : Prop := alabelLowerRow.holds Try.pinned (OpenSpec.ofChange alabelLowerSpec)

/-- ITS FALSE NEIGHBOUR: 'it returns false'. Refute it at one input. -/
def alabelLowerWrong : ChangeSpec := { name := "alabelLower", fn := fun _ => fun
  | [d] => { results := [.lit (.bool false)], args := [d] }
  | _ => none }
def AlabelLowerWrongFalsely : Prop := alabelLowerRow.holds Try.pinned (OpenSpec.ofChange alabelLowerWrong)

/- THE SECOND FORM. 'bulk': how many values and letters a reading holds, each counted each time it is reached (what is shared counts as often as it is met; a slice's spare places count too). A statement '..UptoSaid' is the law's where the arguments, and the package variables that the reading takes, are together of bulk at most 1048576: NARROWER than '..Said'. Prove '..Said' where nothing that the law and all that it calls make is longer than what came in: it says more and counts as full. Else prove '..UptoSaid'. A law counts once. -/
mutual
def uptoBulk {H : Type} : DataW H → Nat
  | .lit (.string bytes) => bytes.length + 1
  | .lit _ => 1
  | .nil => 1
  | .ptr d => uptoBulk d + 1
  | .slice elems spare => uptoBulkAll elems + uptoBulkAll spare + 1
  | .agg parts => uptoBulkAll parts + 1
  | .iface _ d => uptoBulk d + 1
  | .map entries => uptoBulkEntries entries + 1
  | .held _ => 1
def uptoBulkAll {H : Type} : List (DataW H) → Nat
  | [] => 0
  | d :: r => uptoBulk d + uptoBulkAll r
def uptoBulkEntries {H : Type} : List (Lit × DataW H) → Nat
  | [] => 0
  | x :: r => uptoBulkEntry x + uptoBulkEntries r
def uptoBulkEntry {H : Type} : Lit × DataW H → Nat
  | (.string bytes, d) => bytes.length + uptoBulk d + 1
  | (_, d) => uptoBulk d + 1
 end
def uptoSmall : (H : Type) → List (DataW H) → Bool := fun _ ds => decide (uptoBulkAll ds ≤ 1048576)
def OpenSpec.upto (s : _root_.Go.ChangeSpec) : _root_.Go.OpenSpec := { _root_.Go.OpenSpec.ofChange s with cond := some uptoSmall }

/-- 'namedesklaw11.AlabelEncode', WHERE WHAT IT READS IS OF BULK AT MOST 1048576: true; the input reads as it did. -/
def alabelEncodeUptoRow : OpenClaim := { program := "ytmnnpfohjffniaa", sum := "e245b9cc2e26e2b515a1829fb7e10038bebd7c207f868bad53493fa9d07304b1", func := "namedesk/namedesklaw11.AlabelEncode", spec := "alabelEncode", inPlace := ["slices.overlaps[int]"], unfollowed := true, recurses := true, apart := false, narrowed := true }
def AlabelEncodeUptoSaid : Prop := alabelEncodeUptoRow.holds Try.pinned (OpenSpec.upto alabelEncodeSpec)

/-- 'namedesklaw11.AlabelBack', WHERE WHAT IT READS IS OF BULK AT MOST 1048576: true; the input reads as it did. -/
def alabelBackUptoRow : OpenClaim := { program := "ytmnnpfohjffniaa", sum := "e245b9cc2e26e2b515a1829fb7e10038bebd7c207f868bad53493fa9d07304b1", func := "namedesk/namedesklaw11.AlabelBack", spec := "alabelBack", inPlace := ["slices.overlaps[int]"], unfollowed := true, recurses := true, apart := false, narrowed := true }
def AlabelBackUptoSaid : Prop := alabelBackUptoRow.holds Try.pinned (OpenSpec.upto alabelBackSpec)

/-- 'namedesklaw11.AlabelUnique', WHERE WHAT IT READS IS OF BULK AT MOST 1048576: true; the input reads as it did. -/
def alabelUniqueUptoRow : OpenClaim := { program := "ytmnnpfohjffniaa", sum := "e245b9cc2e26e2b515a1829fb7e10038bebd7c207f868bad53493fa9d07304b1", func := "namedesk/namedesklaw11.AlabelUnique", spec := "alabelUnique", inPlace := ["slices.overlaps[int]"], unfollowed := true, recurses := true, apart := false, narrowed := true }
def AlabelUniqueUptoSaid : Prop := alabelUniqueUptoRow.holds Try.pinned (OpenSpec.upto alabelUniqueSpec)

/-- 'namedesklaw11.AlabelLimits', WHERE WHAT IT READS IS OF BULK AT MOST 1048576: true; the input reads as it did. -/
def alabelLimitsUptoRow : OpenClaim := { program := "ytmnnpfohjffniaa", sum := "e245b9cc2e26e2b515a1829fb7e10038bebd7c207f868bad53493fa9d07304b1", func := "namedesk/namedesklaw11.AlabelLimits", spec := "alabelLimits", inPlace := ["slices.overlaps[int]"], unfollowed := true, recurses := true, apart := false, narrowed := true }
def AlabelLimitsUptoSaid : Prop := alabelLimitsUptoRow.holds Try.pinned (OpenSpec.upto alabelLimitsSpec)

/-- 'namedesklaw11.AlabelLower', WHERE WHAT IT READS IS OF BULK AT MOST 1048576: true; the input reads as it did. -/
def alabelLowerUptoRow : OpenClaim := { program := "ytmnnpfohjffniaa", sum := "e245b9cc2e26e2b515a1829fb7e10038bebd7c207f868bad53493fa9d07304b1", func := "namedesk/namedesklaw11.AlabelLower", spec := "alabelLower", inPlace := ["slices.overlaps[int]"], unfollowed := true, recurses := true, apart := false, narrowed := true }
def AlabelLowerUptoSaid : Prop := alabelLowerUptoRow.holds Try.pinned (OpenSpec.upto alabelLowerSpec)

end Rows
end Go.Proofs.Ytmnnpfohjffniaa
