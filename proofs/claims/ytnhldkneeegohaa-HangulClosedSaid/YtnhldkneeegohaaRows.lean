/-
  No cell of these rows narrows 'for every input' (looked for: loops, veiled, ifaces, maps, wideKeys, modest, calm, conditions, laid).
  DERIVED. THE GIVEN ROWS OF THIS SEAT. 5 by the template 'for every input the law returns true; each argument reads behind the call as it read before'; 0 by the template 'total and deterministic' (their statements: YtnhldkneeegohaaTotals.lean).
  GIVEN WITH THE SEED: the statements are not yours to turn. If you find one false, say at which input.
  Laid BY PROGRAM, IN A SANDBOX (cutbox-rows.mjs): the forced cells as the released guide's own fill.sh prints them over the translation ede405a76b13b99f… (all of the seat's roots in one cut). By AI agents, Wed Nov 11 2026. No macro, syntax, notation, axiom, sorry.
-/
import Derived.Test.YtnhldkneeegohaaChecked
import GoSem.Claim
import GoSem.ClaimJoined
import GoSem.ClaimMapViews
import Derived.JoinedTies
import Derived.KernelRfl
namespace Go.Proofs.Ytnhldkneeegohaa
/- THE CELL 'sum', in the pinned program and in every row, IS THE sha256 OF THE DUMP (.gsa) THAT YtnhldkneeegohaaProg.lean LOADS. Nothing in Lean hashes anything: it is a label: what it is worth is what the hold of that sum in a sandbox is worth. -/
noncomputable def Try.pinned : Pinned := { name := "ytnhldkneeegohaa", sum := "ede405a76b13b99f8b7f13a492b3c813bf354a5e3e04bb6cb93cb6fe55a5b672", checked := Try.checked }
namespace Rows
def none {H : Type} : Left H := { results := [], args := [] }

/-- 'namedesklaw5.HangulOne': WHATEVER THE INPUT: true; the input reads as it did. -/
def hangulOneSpec : ChangeSpec := { name := "hangulOne", fn := fun _ => fun
  | [d] => { results := [.lit (.bool true)], args := [d] }
  | _ => none }
def hangulOneRow : OpenClaim := { program := "ytnhldkneeegohaa", sum := "ede405a76b13b99f8b7f13a492b3c813bf354a5e3e04bb6cb93cb6fe55a5b672", func := "namedesk/namedesklaw5.HangulOne", spec := "hangulOne", apart := false }
def HangulOneSaid : Prop := hangulOneRow.holds Try.pinned (OpenSpec.ofChange hangulOneSpec)

/-- ITS FALSE NEIGHBOUR: 'it returns false'. Refute it at one input. -/
def hangulOneWrong : ChangeSpec := { name := "hangulOne", fn := fun _ => fun
  | [d] => { results := [.lit (.bool false)], args := [d] }
  | _ => none }
def HangulOneWrongFalsely : Prop := hangulOneRow.holds Try.pinned (OpenSpec.ofChange hangulOneWrong)

/-- 'namedesklaw5.HangulCompose': WHATEVER THE INPUT: true; the input reads as it did. -/
def hangulComposeSpec : ChangeSpec := { name := "hangulCompose", fn := fun _ => fun
  | [d1, d2] => { results := [.lit (.bool true)], args := [d1, d2] }
  | _ => none }
def hangulComposeRow : OpenClaim := { program := "ytnhldkneeegohaa", sum := "ede405a76b13b99f8b7f13a492b3c813bf354a5e3e04bb6cb93cb6fe55a5b672", func := "namedesk/namedesklaw5.HangulCompose", spec := "hangulCompose", apart := false }
def HangulComposeSaid : Prop := hangulComposeRow.holds Try.pinned (OpenSpec.ofChange hangulComposeSpec)

/-- ITS FALSE NEIGHBOUR: 'it returns false'. Refute it at one input. -/
def hangulComposeWrong : ChangeSpec := { name := "hangulCompose", fn := fun _ => fun
  | [d1, d2] => { results := [.lit (.bool false)], args := [d1, d2] }
  | _ => none }
def HangulComposeWrongFalsely : Prop := hangulComposeRow.holds Try.pinned (OpenSpec.ofChange hangulComposeWrong)

/-- 'namedesklaw5.HangulBack': WHATEVER THE INPUT: true; the input reads as it did. -/
def hangulBackSpec : ChangeSpec := { name := "hangulBack", fn := fun _ => fun
  | [d] => { results := [.lit (.bool true)], args := [d] }
  | _ => none }
def hangulBackRow : OpenClaim := { program := "ytnhldkneeegohaa", sum := "ede405a76b13b99f8b7f13a492b3c813bf354a5e3e04bb6cb93cb6fe55a5b672", func := "namedesk/namedesklaw5.HangulBack", spec := "hangulBack", apart := false }
def HangulBackSaid : Prop := hangulBackRow.holds Try.pinned (OpenSpec.ofChange hangulBackSpec)

/-- ITS FALSE NEIGHBOUR: 'it returns false'. Refute it at one input. -/
def hangulBackWrong : ChangeSpec := { name := "hangulBack", fn := fun _ => fun
  | [d] => { results := [.lit (.bool false)], args := [d] }
  | _ => none }
def HangulBackWrongFalsely : Prop := hangulBackRow.holds Try.pinned (OpenSpec.ofChange hangulBackWrong)

/-- 'namedesklaw5.HangulParts': WHATEVER THE INPUT: true; the input reads as it did. -/
def hangulPartsSpec : ChangeSpec := { name := "hangulParts", fn := fun _ => fun
  | [d1, d2, d3] => { results := [.lit (.bool true)], args := [d1, d2, d3] }
  | _ => none }
def hangulPartsRow : OpenClaim := { program := "ytnhldkneeegohaa", sum := "ede405a76b13b99f8b7f13a492b3c813bf354a5e3e04bb6cb93cb6fe55a5b672", func := "namedesk/namedesklaw5.HangulParts", spec := "hangulParts", apart := false }
def HangulPartsSaid : Prop := hangulPartsRow.holds Try.pinned (OpenSpec.ofChange hangulPartsSpec)

/-- ITS FALSE NEIGHBOUR: 'it returns false'. Refute it at one input. -/
def hangulPartsWrong : ChangeSpec := { name := "hangulParts", fn := fun _ => fun
  | [d1, d2, d3] => { results := [.lit (.bool false)], args := [d1, d2, d3] }
  | _ => none }
def HangulPartsWrongFalsely : Prop := hangulPartsRow.holds Try.pinned (OpenSpec.ofChange hangulPartsWrong)

/-- 'namedesklaw5.HangulClosed': WHATEVER THE INPUT: true; the input reads as it did. -/
def hangulClosedSpec : ChangeSpec := { name := "hangulClosed", fn := fun _ => fun
  | [d1, d2] => { results := [.lit (.bool true)], args := [d1, d2] }
  | _ => none }
def hangulClosedRow : OpenClaim := { program := "ytnhldkneeegohaa", sum := "ede405a76b13b99f8b7f13a492b3c813bf354a5e3e04bb6cb93cb6fe55a5b672", func := "namedesk/namedesklaw5.HangulClosed", spec := "hangulClosed", apart := false }
def HangulClosedSaid : Prop := hangulClosedRow.holds Try.pinned (OpenSpec.ofChange hangulClosedSpec)

/-- ITS FALSE NEIGHBOUR: 'it returns false'. Refute it at one input. -/
def hangulClosedWrong : ChangeSpec := { name := "hangulClosed", fn := fun _ => fun
  | [d1, d2] => { results := [.lit (.bool false)], args := [d1, d2] }
  | _ => none }
def HangulClosedWrongFalsely : Prop := hangulClosedRow.holds Try.pinned (OpenSpec.ofChange hangulClosedWrong)

/- THE SECOND FORM. 'bulk': how many values and letters a reading holds, each counted each time it is reached (what is shared counts as often as it is met; a slice's spare places count too). A statement '..UptoSaid' is the law's where the arguments, and the package variables that the reading takes, are together of bulk at most 1048576: NARROWER than '..Said'. Prove '..Said' where nothing that the law and all that it calls make is longer than what came in: it says more and counts as full. Else prove '..UptoSaid'. A law counts once. -/
mutual
def uptoBulk {H : Type} : DataW H → Nat
  | .lit (.string bytes) => bytes.length + 1
  | .lit _ => 1
  | .nil => 1
  | .ptr d => uptoBulk d + 1
  | .slice elems spare => uptoBulkAll elems + uptoBulkAll spare + 1
  | .agg parts => uptoBulkAll parts + 1
  | .iface _ d => uptoBulk d + 1
  | .map entries => uptoBulkEntries entries + 1
  | .held _ => 1
def uptoBulkAll {H : Type} : List (DataW H) → Nat
  | [] => 0
  | d :: r => uptoBulk d + uptoBulkAll r
def uptoBulkEntries {H : Type} : List (Lit × DataW H) → Nat
  | [] => 0
  | x :: r => uptoBulkEntry x + uptoBulkEntries r
def uptoBulkEntry {H : Type} : Lit × DataW H → Nat
  | (.string bytes, d) => bytes.length + uptoBulk d + 1
  | (_, d) => uptoBulk d + 1
 end
def uptoSmall : (H : Type) → List (DataW H) → Bool := fun _ ds => decide (uptoBulkAll ds ≤ 1048576)
def OpenSpec.upto (s : _root_.Go.ChangeSpec) : _root_.Go.OpenSpec := { _root_.Go.OpenSpec.ofChange s with cond := some uptoSmall }

/-- 'namedesklaw5.HangulOne', WHERE WHAT IT READS IS OF BULK AT MOST 1048576: true; the input reads as it did. -/
def hangulOneUptoRow : OpenClaim := { program := "ytnhldkneeegohaa", sum := "ede405a76b13b99f8b7f13a492b3c813bf354a5e3e04bb6cb93cb6fe55a5b672", func := "namedesk/namedesklaw5.HangulOne", spec := "hangulOne", apart := false, narrowed := true }
def HangulOneUptoSaid : Prop := hangulOneUptoRow.holds Try.pinned (OpenSpec.upto hangulOneSpec)

/-- 'namedesklaw5.HangulCompose', WHERE WHAT IT READS IS OF BULK AT MOST 1048576: true; the input reads as it did. -/
def hangulComposeUptoRow : OpenClaim := { program := "ytnhldkneeegohaa", sum := "ede405a76b13b99f8b7f13a492b3c813bf354a5e3e04bb6cb93cb6fe55a5b672", func := "namedesk/namedesklaw5.HangulCompose", spec := "hangulCompose", apart := false, narrowed := true }
def HangulComposeUptoSaid : Prop := hangulComposeUptoRow.holds Try.pinned (OpenSpec.upto hangulComposeSpec)

/-- 'namedesklaw5.HangulBack', WHERE WHAT IT READS IS OF BULK AT MOST 1048576: true; the input reads as it did. -/
def hangulBackUptoRow : OpenClaim := { program := "ytnhldkneeegohaa", sum := "ede405a76b13b99f8b7f13a492b3c813bf354a5e3e04bb6cb93cb6fe55a5b672", func := "namedesk/namedesklaw5.HangulBack", spec := "hangulBack", apart := false, narrowed := true }
def HangulBackUptoSaid : Prop := hangulBackUptoRow.holds Try.pinned (OpenSpec.upto hangulBackSpec)

/-- 'namedesklaw5.HangulParts', WHERE WHAT IT READS IS OF BULK AT MOST 1048576: true; the input reads as it did. -/
def hangulPartsUptoRow : OpenClaim := { program := "ytnhldkneeegohaa", sum := "ede405a76b13b99f8b7f13a492b3c813bf354a5e3e04bb6cb93cb6fe55a5b672", func := "namedesk/namedesklaw5.HangulParts", spec := "hangulParts", apart := false, narrowed := true }
def HangulPartsUptoSaid : Prop := hangulPartsUptoRow.holds Try.pinned (OpenSpec.upto hangulPartsSpec)

/-- 'namedesklaw5.HangulClosed', WHERE WHAT IT READS IS OF BULK AT MOST 1048576: true; the input reads as it did. -/
def hangulClosedUptoRow : OpenClaim := { program := "ytnhldkneeegohaa", sum := "ede405a76b13b99f8b7f13a492b3c813bf354a5e3e04bb6cb93cb6fe55a5b672", func := "namedesk/namedesklaw5.HangulClosed", spec := "hangulClosed", apart := false, narrowed := true }
def HangulClosedUptoSaid : Prop := hangulClosedUptoRow.holds Try.pinned (OpenSpec.upto hangulClosedSpec)

end Rows
end Go.Proofs.Ytnhldkneeegohaa
