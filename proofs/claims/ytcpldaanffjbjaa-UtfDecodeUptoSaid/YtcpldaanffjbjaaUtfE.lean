/-
  The contracts of package utf with their answers named.
-/
import Derived.Test.YtcpldaanffjbjaaAwake
import Derived.Test.YtcpldaanffjbjaaUtfD
import Derived.Test.YtcpldaanffjbjaaUtfSpec2
namespace Go.Proofs.Ytcpldaanffjbjaa
open Go.RowKit

theorem encode_at (p : Option Addr) (cap n : Nat) (zs : List Int) (U : ByteArray) (er : Int) (w : World) (hr : IntsIn w p zs) (hs : zs.length ≤ maxLen) (hl : zs.length = n) (he : Hid (encodeS zs = (U, er))) :
    Calls Try.prog 12 #[.slice p n cap] w fun e w' => e = .returned (.tuple #[.string U, .int .i64 er]) ∧ Below w.heap.size w w' := by
  subst hl
  have := encode_any p cap zs w hr hs
  rw [he.out] at this
  exact this

theorem valid_at (s : ByteArray) (b : Bool) (w : World) (hs : s.size ≤ maxLen) (h : Hid (((dec s.data.toList).2 == s.size) = b)) :
    Calls Try.prog 19 #[.string s] w fun e w' => e = .returned (.bool b) ∧ Below w.heap.size w w' := by
  have := valid_any s w hs
  rw [h.out] at this
  exact this

theorem str_ext {a b : ByteArray} (h : a.data.toList = b.data.toList) : a = b := by
  cases a; cases b; congr 1; exact Array.toList_inj.1 h

/-- A well-formed string: what it decodes to is encoded to it. -/
theorem whole_ok (s : ByteArray) (h : (dec s.data.toList).2 = s.size) (hs : s.size ≤ 4096) :
    decodeS s.data.toList = ((dec s.data.toList).1, 0, 0) ∧ encodeS (dec s.data.toList).1 = (s, 0) := by
  have hl : s.data.toList.length = s.size := rfl
  obtain ⟨h1, h2⟩ := dec_back _ s.data.toList (Nat.le_refl _)
  have hb := dec_bd _ s.data.toList (Nat.le_refl _)
  refine ⟨by rw [decodeS, if_neg (by omega), if_neg (by omega)], ?_⟩
  rw [encodeS, if_neg (by omega), if_pos h1]
  congr 1
  apply str_ext
  rw [strOfNums_flat, ← h2, List.take_of_length_le (by omega)]

/-- Another one: the same up to the flaw. -/
theorem whole_front (s : ByteArray) (m : Nat) (h : (dec s.data.toList).2 = m) (hm : m < s.size) (hs : s.size ≤ 4096) :
    decodeS s.data.toList = ([], (m : Int), 9) ∧ decodeS (s.extract 0 m).data.toList = ((dec s.data.toList).1, 0, 0) ∧ encodeS (dec s.data.toList).1 = (s.extract 0 m, 0) := by
  have hl : s.data.toList.length = s.size := rfl
  obtain ⟨h1, h2⟩ := dec_back _ s.data.toList (Nat.le_refl _)
  have hb := dec_bd _ s.data.toList (Nat.le_refl _)
  have hp : (s.extract 0 m).data.toList = s.data.toList.take (dec s.data.toList).2 := by
    rw [h, ByteArray.data_extract, Array.toList_extract]
    simp
  have hd := dec_take s.data.toList
  refine ⟨by rw [decodeS, if_neg (by omega), if_pos (by omega), h], ?_, ?_⟩
  · rw [hp, decodeS, hd, List.length_take, if_neg (by omega), if_neg (by omega)]
  · rw [encodeS, if_neg (by omega), if_pos h1]
    congr 1
    apply str_ext
    rw [strOfNums_flat, ← h2, hp]

end Go.Proofs.Ytcpldaanffjbjaa
