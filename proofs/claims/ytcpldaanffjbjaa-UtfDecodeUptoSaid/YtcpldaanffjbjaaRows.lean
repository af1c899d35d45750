/-
  No cell of these rows narrows 'for every input' (looked for: loops, veiled, ifaces, maps, wideKeys, modest, calm, conditions, laid).
  DERIVED. THE GIVEN ROWS OF THIS SEAT. 6 by the template 'for every input the law returns true; each argument reads behind the call as it read before'; 0 by the template 'total and deterministic' (their statements: YtcpldaanffjbjaaTotals.lean).
  GIVEN WITH THE SEED: the statements are not yours to turn. If you find one false, say at which input.
  Laid BY PROGRAM, IN A SANDBOX (cutbox-rows.mjs): the forced cells as the released guide's own fill.sh prints them over the translation 04c9a3428e03e8cd… (all of the seat's roots in one cut). By AI agents, Wed Nov 11 2026. No macro, syntax, notation, axiom, sorry.
-/
import Derived.Test.YtcpldaanffjbjaaChecked
import GoSem.Claim
import GoSem.ClaimJoined
import GoSem.ClaimMapViews
import Derived.JoinedTies
import Derived.KernelRfl
namespace Go.Proofs.Ytcpldaanffjbjaa
/- THE CELL 'sum', in the pinned program and in every row, IS THE sha256 OF THE DUMP (.gsa) THAT YtcpldaanffjbjaaProg.lean LOADS. Nothing in Lean hashes anything: it is a label: what it is worth is what the hold of that sum in a sandbox is worth. -/
noncomputable def Try.pinned : Pinned := { name := "ytcpldaanffjbjaa", sum := "04c9a3428e03e8cdc0261555399d3ae63159f0db8ba8044cc71fbe4b0faa8f41", checked := Try.checked }
namespace Rows
def none {H : Type} : Left H := { results := [], args := [] }

/-- 'namedesklaw1.UtfDecode': WHATEVER THE INPUT: true; the input reads as it did. -/
def utfDecodeSpec : ChangeSpec := { name := "utfDecode", fn := fun _ => fun
  | [d1, d2] => { results := [.lit (.bool true)], args := [d1, d2] }
  | _ => none }
def utfDecodeRow : OpenClaim := { program := "ytcpldaanffjbjaa", sum := "04c9a3428e03e8cdc0261555399d3ae63159f0db8ba8044cc71fbe4b0faa8f41", func := "namedesk/namedesklaw1.UtfDecode", spec := "utfDecode", apart := false }
def UtfDecodeSaid : Prop := utfDecodeRow.holds Try.pinned (OpenSpec.ofChange utfDecodeSpec)

/-- ITS FALSE NEIGHBOUR: 'it returns false'. Refute it at one input. -/
def utfDecodeWrong : ChangeSpec := { name := "utfDecode", fn := fun _ => fun
  | [d1, d2] => { results := [.lit (.bool false)], args := [d1, d2] }
  | _ => none }
def UtfDecodeWrongFalsely : Prop := utfDecodeRow.holds Try.pinned (OpenSpec.ofChange utfDecodeWrong)

/-- 'namedesklaw1.UtfEncode': WHATEVER THE INPUT: true; the input reads as it did. -/
def utfEncodeSpec : ChangeSpec := { name := "utfEncode", fn := fun _ => fun
  | [d1, d2, d3] => { results := [.lit (.bool true)], args := [d1, d2, d3] }
  | _ => none }
def utfEncodeRow : OpenClaim := { program := "ytcpldaanffjbjaa", sum := "04c9a3428e03e8cdc0261555399d3ae63159f0db8ba8044cc71fbe4b0faa8f41", func := "namedesk/namedesklaw1.UtfEncode", spec := "utfEncode", apart := false }
def UtfEncodeSaid : Prop := utfEncodeRow.holds Try.pinned (OpenSpec.ofChange utfEncodeSpec)

/-- ITS FALSE NEIGHBOUR: 'it returns false'. Refute it at one input. -/
def utfEncodeWrong : ChangeSpec := { name := "utfEncode", fn := fun _ => fun
  | [d1, d2, d3] => { results := [.lit (.bool false)], args := [d1, d2, d3] }
  | _ => none }
def UtfEncodeWrongFalsely : Prop := utfEncodeRow.holds Try.pinned (OpenSpec.ofChange utfEncodeWrong)

/-- 'namedesklaw1.UtfBack': WHATEVER THE INPUT: true; the input reads as it did. -/
def utfBackSpec : ChangeSpec := { name := "utfBack", fn := fun _ => fun
  | [d1, d2] => { results := [.lit (.bool true)], args := [d1, d2] }
  | _ => none }
def utfBackRow : OpenClaim := { program := "ytcpldaanffjbjaa", sum := "04c9a3428e03e8cdc0261555399d3ae63159f0db8ba8044cc71fbe4b0faa8f41", func := "namedesk/namedesklaw1.UtfBack", spec := "utfBack", apart := false }
def UtfBackSaid : Prop := utfBackRow.holds Try.pinned (OpenSpec.ofChange utfBackSpec)

/-- ITS FALSE NEIGHBOUR: 'it returns false'. Refute it at one input. -/
def utfBackWrong : ChangeSpec := { name := "utfBack", fn := fun _ => fun
  | [d1, d2] => { results := [.lit (.bool false)], args := [d1, d2] }
  | _ => none }
def UtfBackWrongFalsely : Prop := utfBackRow.holds Try.pinned (OpenSpec.ofChange utfBackWrong)

/-- 'namedesklaw1.UtfWhole': WHATEVER THE INPUT: true; the input reads as it did. -/
def utfWholeSpec : ChangeSpec := { name := "utfWhole", fn := fun _ => fun
  | [d1, d2] => { results := [.lit (.bool true)], args := [d1, d2] }
  | _ => none }
def utfWholeRow : OpenClaim := { program := "ytcpldaanffjbjaa", sum := "04c9a3428e03e8cdc0261555399d3ae63159f0db8ba8044cc71fbe4b0faa8f41", func := "namedesk/namedesklaw1.UtfWhole", spec := "utfWhole", apart := false }
def UtfWholeSaid : Prop := utfWholeRow.holds Try.pinned (OpenSpec.ofChange utfWholeSpec)

/-- ITS FALSE NEIGHBOUR: 'it returns false'. Refute it at one input. -/
def utfWholeWrong : ChangeSpec := { name := "utfWhole", fn := fun _ => fun
  | [d1, d2] => { results := [.lit (.bool false)], args := [d1, d2] }
  | _ => none }
def UtfWholeWrongFalsely : Prop := utfWholeRow.holds Try.pinned (OpenSpec.ofChange utfWholeWrong)

/-- 'namedesklaw1.UtfConcatenation': WHATEVER THE INPUT: true; the input reads as it did. -/
def utfConcatenationSpec : ChangeSpec := { name := "utfConcatenation", fn := fun _ => fun
  | [d1, d2] => { results := [.lit (.bool true)], args := [d1, d2] }
  | _ => none }
def utfConcatenationRow : OpenClaim := { program := "ytcpldaanffjbjaa", sum := "04c9a3428e03e8cdc0261555399d3ae63159f0db8ba8044cc71fbe4b0faa8f41", func := "namedesk/namedesklaw1.UtfConcatenation", spec := "utfConcatenation", apart := false }
def UtfConcatenationSaid : Prop := utfConcatenationRow.holds Try.pinned (OpenSpec.ofChange utfConcatenationSpec)

/-- ITS FALSE NEIGHBOUR: 'it returns false'. Refute it at one input. -/
def utfConcatenationWrong : ChangeSpec := { name := "utfConcatenation", fn := fun _ => fun
  | [d1, d2] => { results := [.lit (.bool false)], args := [d1, d2] }
  | _ => none }
def UtfConcatenationWrongFalsely : Prop := utfConcatenationRow.holds Try.pinned (OpenSpec.ofChange utfConcatenationWrong)

/-- 'namedesklaw1.UtfLimits': WHATEVER THE INPUT: true; the input reads as it did. -/
def utfLimitsSpec : ChangeSpec := { name := "utfLimits", fn := fun _ => fun
  | [d] => { results := [.lit (.bool true)], args := [d] }
  | _ => none }
def utfLimitsRow : OpenClaim := { program := "ytcpldaanffjbjaa", sum := "04c9a3428e03e8cdc0261555399d3ae63159f0db8ba8044cc71fbe4b0faa8f41", func := "namedesk/namedesklaw1.UtfLimits", spec := "utfLimits", apart := false }
def UtfLimitsSaid : Prop := utfLimitsRow.holds Try.pinned (OpenSpec.ofChange utfLimitsSpec)

/-- ITS FALSE NEIGHBOUR: 'it returns false'. Refute it at one input. -/
def utfLimitsWrong : ChangeSpec := { name := "utfLimits", fn := fun _ => fun
  | [d] => { results := [.lit (.bool false)], args := [d] }
  | _ => none }
def UtfLimitsWrongFalsely : Prop := utfLimitsRow.holds Try.pinned (OpenSpec.ofChange utfLimitsWrong)

/- THE SECOND FORM. 'bulk': how many values and letters a reading holds, each counted each time it is reached (what is shared counts as often as it is met; a slice's spare places count too). A statement '..UptoSaid' is the law's where the arguments, and the package variables that the reading takes, are together of bulk at most 1048576: NARROWER than '..Said'. Prove '..Said' where nothing that the law and all that it calls make is longer than what came in: it says more and counts as full. Else prove '..UptoSaid'. A law counts once. -/
mutual
def uptoBulk {H : Type} : DataW H → Nat
  | .lit (.string bytes) => bytes.length + 1
  | .lit _ => 1
  | .nil => 1
  | .ptr d => uptoBulk d + 1
  | .slice elems spare => uptoBulkAll elems + uptoBulkAll spare + 1
  | .agg parts => uptoBulkAll parts + 1
  | .iface _ d => uptoBulk d + 1
  | .map entries => uptoBulkEntries entries + 1
  | .held _ => 1
def uptoBulkAll {H : Type} : List (DataW H) → Nat
  | [] => 0
  | d :: r => uptoBulk d + uptoBulkAll r
def uptoBulkEntries {H : Type} : List (Lit × DataW H) → Nat
  | [] => 0
  | x :: r => uptoBulkEntry x + uptoBulkEntries r
def uptoBulkEntry {H : Type} : Lit × DataW H → Nat
  | (.string bytes, d) => bytes.length + uptoBulk d + 1
  | (_, d) => uptoBulk d + 1
 end
def uptoSmall : (H : Type) → List (DataW H) → Bool := fun _ ds => decide (uptoBulkAll ds ≤ 1048576)
def OpenSpec.upto (s : _root_.Go.ChangeSpec) : _root_.Go.OpenSpec := { _root_.Go.OpenSpec.ofChange s with cond := some uptoSmall }

/-- 'namedesklaw1.UtfDecode', WHERE WHAT IT READS IS OF BULK AT MOST 1048576: true; the input reads as it did. -/
def utfDecodeUptoRow : OpenClaim := { program := "ytcpldaanffjbjaa", sum := "04c9a3428e03e8cdc0261555399d3ae63159f0db8ba8044cc71fbe4b0faa8f41", func := "namedesk/namedesklaw1.UtfDecode", spec := "utfDecode", apart := false, narrowed := true }
def UtfDecodeUptoSaid : Prop := utfDecodeUptoRow.holds Try.pinned (OpenSpec.upto utfDecodeSpec)

/-- 'namedesklaw1.UtfEncode', WHERE WHAT IT READS IS OF BULK AT MOST 1048576: true; the input reads as it did. -/
def utfEncodeUptoRow : OpenClaim := { program := "ytcpldaanffjbjaa", sum := "04c9a3428e03e8cdc0261555399d3ae63159f0db8ba8044cc71fbe4b0faa8f41", func := "namedesk/namedesklaw1.UtfEncode", spec := "utfEncode", apart := false, narrowed := true }
def UtfEncodeUptoSaid : Prop := utfEncodeUptoRow.holds Try.pinned (OpenSpec.upto utfEncodeSpec)

/-- 'namedesklaw1.UtfBack', WHERE WHAT IT READS IS OF BULK AT MOST 1048576: true; the input reads as it did. -/
def utfBackUptoRow : OpenClaim := { program := "ytcpldaanffjbjaa", sum := "04c9a3428e03e8cdc0261555399d3ae63159f0db8ba8044cc71fbe4b0faa8f41", func := "namedesk/namedesklaw1.UtfBack", spec := "utfBack", apart := false, narrowed := true }
def UtfBackUptoSaid : Prop := utfBackUptoRow.holds Try.pinned (OpenSpec.upto utfBackSpec)

/-- 'namedesklaw1.UtfWhole', WHERE WHAT IT READS IS OF BULK AT MOST 1048576: true; the input reads as it did. -/
def utfWholeUptoRow : OpenClaim := { program := "ytcpldaanffjbjaa", sum := "04c9a3428e03e8cdc0261555399d3ae63159f0db8ba8044cc71fbe4b0faa8f41", func := "namedesk/namedesklaw1.UtfWhole", spec := "utfWhole", apart := false, narrowed := true }
def UtfWholeUptoSaid : Prop := utfWholeUptoRow.holds Try.pinned (OpenSpec.upto utfWholeSpec)

/-- 'namedesklaw1.UtfConcatenation', WHERE WHAT IT READS IS OF BULK AT MOST 1048576: true; the input reads as it did. -/
def utfConcatenationUptoRow : OpenClaim := { program := "ytcpldaanffjbjaa", sum := "04c9a3428e03e8cdc0261555399d3ae63159f0db8ba8044cc71fbe4b0faa8f41", func := "namedesk/namedesklaw1.UtfConcatenation", spec := "utfConcatenation", apart := false, narrowed := true }
def UtfConcatenationUptoSaid : Prop := utfConcatenationUptoRow.holds Try.pinned (OpenSpec.upto utfConcatenationSpec)

/-- 'namedesklaw1.UtfLimits', WHERE WHAT IT READS IS OF BULK AT MOST 1048576: true; the input reads as it did. -/
def utfLimitsUptoRow : OpenClaim := { program := "ytcpldaanffjbjaa", sum := "04c9a3428e03e8cdc0261555399d3ae63159f0db8ba8044cc71fbe4b0faa8f41", func := "namedesk/namedesklaw1.UtfLimits", spec := "utfLimits", apart := false, narrowed := true }
def UtfLimitsUptoSaid : Prop := utfLimitsUptoRow.holds Try.pinned (OpenSpec.upto utfLimitsSpec)

end Rows
end Go.Proofs.Ytcpldaanffjbjaa
