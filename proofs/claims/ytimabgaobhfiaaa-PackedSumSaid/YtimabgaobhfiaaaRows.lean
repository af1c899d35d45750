/-
  No cell of these rows narrows 'for every input' (looked for: loops, veiled, ifaces, maps, wideKeys, modest, calm, conditions, laid).
  DERIVED. THE GIVEN ROWS OF THIS SEAT. 8 by the template 'for every input the law returns true; each argument reads behind the call as it read before'; 0 by the template 'total and deterministic' (their statements: YtimabgaobhfiaaaTotals.lean).
  GIVEN WITH THE SEED: the statements are not yours to turn. If you find one false, say at which input.
  Laid BY PROGRAM, IN A SANDBOX (cutbox-rows.mjs): the forced cells as the released guide's own fill.sh prints them over the translation 6f8ed4a3272ae038… (all of the seat's roots in one cut). By AI agents, Wed Nov 11 2026. No macro, syntax, notation, axiom, sorry.
-/
import Derived.Test.YtimabgaobhfiaaaChecked
import GoSem.Claim
import GoSem.ClaimJoined
import GoSem.ClaimMapViews
import Derived.JoinedTies
import Derived.KernelRfl
namespace Go.Proofs.Ytimabgaobhfiaaa
/- THE CELL 'sum', in the pinned program and in every row, IS THE sha256 OF THE DUMP (.gsa) THAT YtimabgaobhfiaaaProg.lean LOADS. Nothing in Lean hashes anything: it is a label: what it is worth is what the hold of that sum in a sandbox is worth. -/
noncomputable def Try.pinned : Pinned := { name := "ytimabgaobhfiaaa", sum := "6f8ed4a3272ae038d2eb8d9c7b51720cff697eb720c52744300e4cb8e23bbc7f", checked := Try.checked }
namespace Rows
def none {H : Type} : Left H := { results := [], args := [] }

/-- 'namedesklaw3.PackedGet': WHATEVER THE INPUT: true; the input reads as it did. -/
def packedGetSpec : ChangeSpec := { name := "packedGet", fn := fun _ => fun
  | [d1, d2, d3] => { results := [.lit (.bool true)], args := [d1, d2, d3] }
  | _ => none }
def packedGetRow : OpenClaim := { program := "ytimabgaobhfiaaa", sum := "6f8ed4a3272ae038d2eb8d9c7b51720cff697eb720c52744300e4cb8e23bbc7f", func := "namedesk/namedesklaw3.PackedGet", spec := "packedGet", apart := false }
def PackedGetSaid : Prop := packedGetRow.holds Try.pinned (OpenSpec.ofChange packedGetSpec)

/-- ITS FALSE NEIGHBOUR: 'it returns false'. Refute it at one input. -/
def packedGetWrong : ChangeSpec := { name := "packedGet", fn := fun _ => fun
  | [d1, d2, d3] => { results := [.lit (.bool false)], args := [d1, d2, d3] }
  | _ => none }
def PackedGetWrongFalsely : Prop := packedGetRow.holds Try.pinned (OpenSpec.ofChange packedGetWrong)

/-- 'namedesklaw3.PackedPut': WHATEVER THE INPUT: true; the input reads as it did. -/
def packedPutSpec : ChangeSpec := { name := "packedPut", fn := fun _ => fun
  | [d1, d2, d3, d4, d5] => { results := [.lit (.bool true)], args := [d1, d2, d3, d4, d5] }
  | _ => none }
def packedPutRow : OpenClaim := { program := "ytimabgaobhfiaaa", sum := "6f8ed4a3272ae038d2eb8d9c7b51720cff697eb720c52744300e4cb8e23bbc7f", func := "namedesk/namedesklaw3.PackedPut", spec := "packedPut", apart := false }
def PackedPutSaid : Prop := packedPutRow.holds Try.pinned (OpenSpec.ofChange packedPutSpec)

/-- ITS FALSE NEIGHBOUR: 'it returns false'. Refute it at one input. -/
def packedPutWrong : ChangeSpec := { name := "packedPut", fn := fun _ => fun
  | [d1, d2, d3, d4, d5] => { results := [.lit (.bool false)], args := [d1, d2, d3, d4, d5] }
  | _ => none }
def PackedPutWrongFalsely : Prop := packedPutRow.holds Try.pinned (OpenSpec.ofChange packedPutWrong)

/-- 'namedesklaw3.PackedInt': WHATEVER THE INPUT: true; the input reads as it did. -/
def packedIntSpec : ChangeSpec := { name := "packedInt", fn := fun _ => fun
  | [d1, d2, d3, d4] => { results := [.lit (.bool true)], args := [d1, d2, d3, d4] }
  | _ => none }
def packedIntRow : OpenClaim := { program := "ytimabgaobhfiaaa", sum := "6f8ed4a3272ae038d2eb8d9c7b51720cff697eb720c52744300e4cb8e23bbc7f", func := "namedesk/namedesklaw3.PackedInt", spec := "packedInt", apart := false }
def PackedIntSaid : Prop := packedIntRow.holds Try.pinned (OpenSpec.ofChange packedIntSpec)

/-- ITS FALSE NEIGHBOUR: 'it returns false'. Refute it at one input. -/
def packedIntWrong : ChangeSpec := { name := "packedInt", fn := fun _ => fun
  | [d1, d2, d3, d4] => { results := [.lit (.bool false)], args := [d1, d2, d3, d4] }
  | _ => none }
def PackedIntWrongFalsely : Prop := packedIntRow.holds Try.pinned (OpenSpec.ofChange packedIntWrong)

/-- 'namedesklaw3.PackedList': WHATEVER THE INPUT: true; the input reads as it did. -/
def packedListSpec : ChangeSpec := { name := "packedList", fn := fun _ => fun
  | [d1, d2, d3, d4] => { results := [.lit (.bool true)], args := [d1, d2, d3, d4] }
  | _ => none }
def packedListRow : OpenClaim := { program := "ytimabgaobhfiaaa", sum := "6f8ed4a3272ae038d2eb8d9c7b51720cff697eb720c52744300e4cb8e23bbc7f", func := "namedesk/namedesklaw3.PackedList", spec := "packedList", apart := false }
def PackedListSaid : Prop := packedListRow.holds Try.pinned (OpenSpec.ofChange packedListSpec)

/-- ITS FALSE NEIGHBOUR: 'it returns false'. Refute it at one input. -/
def packedListWrong : ChangeSpec := { name := "packedList", fn := fun _ => fun
  | [d1, d2, d3, d4] => { results := [.lit (.bool false)], args := [d1, d2, d3, d4] }
  | _ => none }
def PackedListWrongFalsely : Prop := packedListRow.holds Try.pinned (OpenSpec.ofChange packedListWrong)

/-- 'namedesklaw3.PackedSpans': WHATEVER THE INPUT: true; the input reads as it did. -/
def packedSpansSpec : ChangeSpec := { name := "packedSpans", fn := fun _ => fun
  | [d1, d2, d3] => { results := [.lit (.bool true)], args := [d1, d2, d3] }
  | _ => none }
def packedSpansRow : OpenClaim := { program := "ytimabgaobhfiaaa", sum := "6f8ed4a3272ae038d2eb8d9c7b51720cff697eb720c52744300e4cb8e23bbc7f", func := "namedesk/namedesklaw3.PackedSpans", spec := "packedSpans", apart := false }
def PackedSpansSaid : Prop := packedSpansRow.holds Try.pinned (OpenSpec.ofChange packedSpansSpec)

/-- ITS FALSE NEIGHBOUR: 'it returns false'. Refute it at one input. -/
def packedSpansWrong : ChangeSpec := { name := "packedSpans", fn := fun _ => fun
  | [d1, d2, d3] => { results := [.lit (.bool false)], args := [d1, d2, d3] }
  | _ => none }
def PackedSpansWrongFalsely : Prop := packedSpansRow.holds Try.pinned (OpenSpec.ofChange packedSpansWrong)

/-- 'namedesklaw3.PackedUnique': WHATEVER THE INPUT: true; the input reads as it did. -/
def packedUniqueSpec : ChangeSpec := { name := "packedUnique", fn := fun _ => fun
  | [d1, d2] => { results := [.lit (.bool true)], args := [d1, d2] }
  | _ => none }
def packedUniqueRow : OpenClaim := { program := "ytimabgaobhfiaaa", sum := "6f8ed4a3272ae038d2eb8d9c7b51720cff697eb720c52744300e4cb8e23bbc7f", func := "namedesk/namedesklaw3.PackedUnique", spec := "packedUnique", apart := false }
def PackedUniqueSaid : Prop := packedUniqueRow.holds Try.pinned (OpenSpec.ofChange packedUniqueSpec)

/-- ITS FALSE NEIGHBOUR: 'it returns false'. Refute it at one input. -/
def packedUniqueWrong : ChangeSpec := { name := "packedUnique", fn := fun _ => fun
  | [d1, d2] => { results := [.lit (.bool false)], args := [d1, d2] }
  | _ => none }
def PackedUniqueWrongFalsely : Prop := packedUniqueRow.holds Try.pinned (OpenSpec.ofChange packedUniqueWrong)

/-- 'namedesklaw3.PackedPrefix': WHATEVER THE INPUT: true; the input reads as it did. -/
def packedPrefixSpec : ChangeSpec := { name := "packedPrefix", fn := fun _ => fun
  | [d1, d2, d3] => { results := [.lit (.bool true)], args := [d1, d2, d3] }
  | _ => none }
def packedPrefixRow : OpenClaim := { program := "ytimabgaobhfiaaa", sum := "6f8ed4a3272ae038d2eb8d9c7b51720cff697eb720c52744300e4cb8e23bbc7f", func := "namedesk/namedesklaw3.PackedPrefix", spec := "packedPrefix", apart := false }
def PackedPrefixSaid : Prop := packedPrefixRow.holds Try.pinned (OpenSpec.ofChange packedPrefixSpec)

/-- ITS FALSE NEIGHBOUR: 'it returns false'. Refute it at one input. -/
def packedPrefixWrong : ChangeSpec := { name := "packedPrefix", fn := fun _ => fun
  | [d1, d2, d3] => { results := [.lit (.bool false)], args := [d1, d2, d3] }
  | _ => none }
def PackedPrefixWrongFalsely : Prop := packedPrefixRow.holds Try.pinned (OpenSpec.ofChange packedPrefixWrong)

/-- 'namedesklaw3.PackedSum': WHATEVER THE INPUT: true; the input reads as it did. -/
def packedSumSpec : ChangeSpec := { name := "packedSum", fn := fun _ => fun
  | [d1, d2, d3] => { results := [.lit (.bool true)], args := [d1, d2, d3] }
  | _ => none }
def packedSumRow : OpenClaim := { program := "ytimabgaobhfiaaa", sum := "6f8ed4a3272ae038d2eb8d9c7b51720cff697eb720c52744300e4cb8e23bbc7f", func := "namedesk/namedesklaw3.PackedSum", spec := "packedSum", apart := false }
def PackedSumSaid : Prop := packedSumRow.holds Try.pinned (OpenSpec.ofChange packedSumSpec)

/-- ITS FALSE NEIGHBOUR: 'it returns false'. Refute it at one input. -/
def packedSumWrong : ChangeSpec := { name := "packedSum", fn := fun _ => fun
  | [d1, d2, d3] => { results := [.lit (.bool false)], args := [d1, d2, d3] }
  | _ => none }
def PackedSumWrongFalsely : Prop := packedSumRow.holds Try.pinned (OpenSpec.ofChange packedSumWrong)

/- THE SECOND FORM. 'bulk': how many values and letters a reading holds, each counted each time it is reached (what is shared counts as often as it is met; a slice's spare places count too). A statement '..UptoSaid' is the law's where the arguments, and the package variables that the reading takes, are together of bulk at most 1048576: NARROWER than '..Said'. Prove '..Said' where nothing that the law and all that it calls make is longer than what came in: it says more and counts as full. Else prove '..UptoSaid'. A law counts once. -/
mutual
def uptoBulk {H : Type} : DataW H → Nat
  | .lit (.string bytes) => bytes.length + 1
  | .lit _ => 1
  | .nil => 1
  | .ptr d => uptoBulk d + 1
  | .slice elems spare => uptoBulkAll elems + uptoBulkAll spare + 1
  | .agg parts => uptoBulkAll parts + 1
  | .iface _ d => uptoBulk d + 1
  | .map entries => uptoBulkEntries entries + 1
  | .held _ => 1
def uptoBulkAll {H : Type} : List (DataW H) → Nat
  | [] => 0
  | d :: r => uptoBulk d + uptoBulkAll r
def uptoBulkEntries {H : Type} : List (Lit × DataW H) → Nat
  | [] => 0
  | x :: r => uptoBulkEntry x + uptoBulkEntries r
def uptoBulkEntry {H : Type} : Lit × DataW H → Nat
  | (.string bytes, d) => bytes.length + uptoBulk d + 1
  | (_, d) => uptoBulk d + 1
 end
def uptoSmall : (H : Type) → List (DataW H) → Bool := fun _ ds => decide (uptoBulkAll ds ≤ 1048576)
def OpenSpec.upto (s : _root_.Go.ChangeSpec) : _root_.Go.OpenSpec := { _root_.Go.OpenSpec.ofChange s with cond := some uptoSmall }

/-- 'namedesklaw3.PackedGet', WHERE WHAT IT READS IS OF BULK AT MOST 1048576: true; the input reads as it did. -/
def packedGetUptoRow : OpenClaim := { program := "ytimabgaobhfiaaa", sum := "6f8ed4a3272ae038d2eb8d9c7b51720cff697eb720c52744300e4cb8e23bbc7f", func := "namedesk/namedesklaw3.PackedGet", spec := "packedGet", apart := false, narrowed := true }
def PackedGetUptoSaid : Prop := packedGetUptoRow.holds Try.pinned (OpenSpec.upto packedGetSpec)

/-- 'namedesklaw3.PackedPut', WHERE WHAT IT READS IS OF BULK AT MOST 1048576: true; the input reads as it did. -/
def packedPutUptoRow : OpenClaim := { program := "ytimabgaobhfiaaa", sum := "6f8ed4a3272ae038d2eb8d9c7b51720cff697eb720c52744300e4cb8e23bbc7f", func := "namedesk/namedesklaw3.PackedPut", spec := "packedPut", apart := false, narrowed := true }
def PackedPutUptoSaid : Prop := packedPutUptoRow.holds Try.pinned (OpenSpec.upto packedPutSpec)

/-- 'namedesklaw3.PackedInt', WHERE WHAT IT READS IS OF BULK AT MOST 1048576: true; the input reads as it did. -/
def packedIntUptoRow : OpenClaim := { program := "ytimabgaobhfiaaa", sum := "6f8ed4a3272ae038d2eb8d9c7b51720cff697eb720c52744300e4cb8e23bbc7f", func := "namedesk/namedesklaw3.PackedInt", spec := "packedInt", apart := false, narrowed := true }
def PackedIntUptoSaid : Prop := packedIntUptoRow.holds Try.pinned (OpenSpec.upto packedIntSpec)

/-- 'namedesklaw3.PackedList', WHERE WHAT IT READS IS OF BULK AT MOST 1048576: true; the input reads as it did. -/
def packedListUptoRow : OpenClaim := { program := "ytimabgaobhfiaaa", sum := "6f8ed4a3272ae038d2eb8d9c7b51720cff697eb720c52744300e4cb8e23bbc7f", func := "namedesk/namedesklaw3.PackedList", spec := "packedList", apart := false, narrowed := true }
def PackedListUptoSaid : Prop := packedListUptoRow.holds Try.pinned (OpenSpec.upto packedListSpec)

/-- 'namedesklaw3.PackedSpans', WHERE WHAT IT READS IS OF BULK AT MOST 1048576: true; the input reads as it did. -/
def packedSpansUptoRow : OpenClaim := { program := "ytimabgaobhfiaaa", sum := "6f8ed4a3272ae038d2eb8d9c7b51720cff697eb720c52744300e4cb8e23bbc7f", func := "namedesk/namedesklaw3.PackedSpans", spec := "packedSpans", apart := false, narrowed := true }
def PackedSpansUptoSaid : Prop := packedSpansUptoRow.holds Try.pinned (OpenSpec.upto packedSpansSpec)

/-- 'namedesklaw3.PackedUnique', WHERE WHAT IT READS IS OF BULK AT MOST 1048576: true; the input reads as it did. -/
def packedUniqueUptoRow : OpenClaim := { program := "ytimabgaobhfiaaa", sum := "6f8ed4a3272ae038d2eb8d9c7b51720cff697eb720c52744300e4cb8e23bbc7f", func := "namedesk/namedesklaw3.PackedUnique", spec := "packedUnique", apart := false, narrowed := true }
def PackedUniqueUptoSaid : Prop := packedUniqueUptoRow.holds Try.pinned (OpenSpec.upto packedUniqueSpec)

/-- 'namedesklaw3.PackedPrefix', WHERE WHAT IT READS IS OF BULK AT MOST 1048576: true; the input reads as it did. -/
def packedPrefixUptoRow : OpenClaim := { program := "ytimabgaobhfiaaa", sum := "6f8ed4a3272ae038d2eb8d9c7b51720cff697eb720c52744300e4cb8e23bbc7f", func := "namedesk/namedesklaw3.PackedPrefix", spec := "packedPrefix", apart := false, narrowed := true }
def PackedPrefixUptoSaid : Prop := packedPrefixUptoRow.holds Try.pinned (OpenSpec.upto packedPrefixSpec)

/-- 'namedesklaw3.PackedSum', WHERE WHAT IT READS IS OF BULK AT MOST 1048576: true; the input reads as it did. -/
def packedSumUptoRow : OpenClaim := { program := "ytimabgaobhfiaaa", sum := "6f8ed4a3272ae038d2eb8d9c7b51720cff697eb720c52744300e4cb8e23bbc7f", func := "namedesk/namedesklaw3.PackedSum", spec := "packedSum", apart := false, narrowed := true }
def PackedSumUptoSaid : Prop := packedSumUptoRow.holds Try.pinned (OpenSpec.upto packedSumSpec)

end Rows
end Go.Proofs.Ytimabgaobhfiaaa
