/-
  The contract of utf.scalarAt.
-/
import Derived.Test.YtebhliepncmghaaUtfA
import Derived.Lib.Hide
namespace Go.Proofs.Ytebhliepncmghaa
open Go.RowKit

theorem getD_at (l : List UInt8) (j : Nat) (h : j < l.length) : l.getD j 0 = l[j] := by simp [h]
theorem take_snoc_getD (l : List UInt8) (k : Nat) (h : k < l.length) : l.take (k + 1) = l.take k ++ [l.getD k 0] := by
  rw [List.take_succ_eq_append_getElem h, getD_at l k h]

theorem conv_bytes (w : World) (s : ByteArray) : ∃ b cap W', (convert 9 43 (.string s)).run Try.prog w = .ok (.slice (some ⟨b, 0, none⟩) s.size cap) W' ∧
    (∀ j (h : j < s.size), W'.cell? ⟨b, j, none⟩ = some (.int .u8 (s[j].toNat : Int))) ∧ w.heap.size ≤ b ∧ Below w.heap.size w W' := by
  refine ⟨_, _, _, run_bytes_of_string w _ _ _ s Try.underlying9 Try.underlying43 Try.underlying5, ?_, Nat.le_refl _, ?_⟩
  · intro j h
    have e : ∀ (C : Array Value) f, (w.drew.alloc (.cells C 5 f)).cell? ⟨w.heap.size, j, none⟩ = C[j]? := by
      intro C f
      have h : (w.drew.alloc (.cells C 5 f)).heap[w.heap.size]? = some (.cells C 5 f) := by
        show (w.heap.push (.cells C 5 f))[w.heap.size]? = _
        simp
      unfold World.cell?
      rw [h]
      rfl
    rw [e, bytesRow_at s _ j h]
    rfl
  · exact ((Below.refl _ _).drew).alloc (Nat.le_refl _) _

/-- What scalarAt answers behind the first byte. -/
def restS (c0 : Int) (m : Int) (l : List UInt8) : Int × Int :=
  match contS c0 l with
  | none => (0, 0)
  | some c => if lenS c = m then (c, m) else (0, 0)

theorem extract_take (s : ByteArray) (a b : Nat) : (s.extract a b).data.toList = (s.data.toList.drop a).take (b - a) := by
  rw [ByteArray.data_extract, Array.toList_extract]

end Go.Proofs.Ytebhliepncmghaa
