/-
  'string(b)' of bytes.
-/
import Derived.Test.YtimabgaobhfiaaaOwn
namespace Go.Proofs.Ytimabgaobhfiaaa
open Go.RowKit

/-- 'string(b)' of bytes that the call owns. -/
theorem conv_own {w : World} {B : Nat} {v : Value} {xs : List Int} {n : Nat} (h : w.ownsRow B 5 1 v n (xs.map (.int .u8))) :
    (convert 22 9 v).run Try.prog w = .ok (.string (strOfNums xs)) w := by
  obtain ⟨h1, h2⟩ := h
  rcases h2 with ⟨rfl, h3⟩ | ⟨g, cap, cur, rfl, hB, hg, hn, hc, hs, ht⟩
  · subst h3
    have : xs = [] := List.eq_nil_of_length_eq_zero (by simpa using h1)
    subst this
    exact run_convert_bytes_nil w _ _ Try.underlying22 Try.underlying5 _ _ _ Try.underlying9
  · have hl : xs.length = n := by simpa using h1
    refine run_convert_bytes_arg w _ _ Try.underlying22 Try.underlying5 g 0 n cap xs hl ?_ _ Try.underlying9
    intro k hk
    rw [cell_of_row w g (0 + k) cur _ (0, 0) hg, Nat.zero_add]
    have e : (cur.toList.take (n * 1))[k]? = (xs.map (Value.int .u8))[k]? := by rw [ht]
    rw [List.getElem?_take, if_pos (by omega)] at e
    simpa [List.getD, List.getElem?_eq_getElem (show k < xs.length by omega)] using e

/-- 'string([]byte{..})'. -/
theorem conv_lit (w : World) (C : Array Value) (xs : List Int) (n : Nat) (hn : xs.length = n) (h : C.toList = xs.map (.int .u8)) :
    (convert 22 9 (.slice (some ⟨w.heap.size, 0, none⟩) n n)).run Try.prog (w.alloc (.cells C 5)) = .ok (.string (strOfNums xs)) (w.alloc (.cells C 5)) := by
  refine run_convert_bytes_arg _ _ _ Try.underlying22 Try.underlying5 w.heap.size 0 n n xs hn ?_ _ Try.underlying9
  intro i hi
  rw [Nat.zero_add, World.cell?_alloc_new, ← Array.getElem?_toList, h]
  simp [show i < xs.length by omega]

end Go.Proofs.Ytimabgaobhfiaaa
