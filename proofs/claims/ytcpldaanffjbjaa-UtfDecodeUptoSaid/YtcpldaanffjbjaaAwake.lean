/-
  The example of chapter 1: 'awake' returns true.
-/
import Derived.Test.YtcpldaanffjbjaaUtfC
import Derived.Test.YtcpldaanffjbjaaSame
namespace Go.Proofs.Ytcpldaanffjbjaa
open Go.RowKit

/-- A list, a position, an error, with the list's own places. -/
def RetList (xs : List Int) (a er : Int) (w : World) (e : Ending) (w' : World) : Prop :=
  ∃ p cap, e = .returned (.tuple #[.slice p xs.length cap, .int .i64 a, .int .i64 er]) ∧ IntsIn w' p xs ∧ Below w.heap.size w w'

theorem decode_at (s : ByteArray) (xs : List Int) (a er : Int) (w : World) (hs : s.size ≤ maxLen) (hE : Hid (decodeS s.data.toList = (xs, a, er))) :
    Calls Try.prog 17 #[.string s] w (RetList xs a er w) := by
  refine (decode_any s w hs).mono ?_
  rintro e w' ⟨v, rfl, hI, hb⟩
  rw [hE.out] at *
  obtain ⟨p, cap, rfl, hin⟩ := hI.inn
  exact ⟨p, cap, rfl, hin, hb⟩

theorem ints_lit_new (w : World) (C : Array Value) (xs : List Int) (t : TypeId) (h : C.toList = xs.map (.int .i64)) : IntsIn (w.alloc (.cells C t)) (some ⟨w.heap.size, 0, none⟩) xs := by
  intro k hk
  refine ⟨_, _, rfl, ?_⟩
  rw [Nat.zero_add, World.cell?_alloc_new, ← Array.getElem?_toList, h]
  simp [hk]

set_option maxHeartbeats 1000000 in
theorem awake_any (w : World) : Calls Try.prog 9 #[] w fun e w' => e = .returned (.bool true) ∧ Below w.heap.size w w' := by
  have h1 : Hid (decodeS (ByteArray.mk #[97, 204, 129]).data.toList = ([97, 769], 0, 0)) := by unfold Hid; decide +kernel
  have h2 : Hid (decodeS (ByteArray.mk #[97, 192, 128]).data.toList = ([], 1, 9)) := by unfold Hid; decide +kernel
  go_enter Try.func9, Try.ntmps9
  go_wp2_with fail
  refine (decode_at _ _ _ _ _ (by decide +kernel) h1).mono ?_
  rintro e w1 ⟨p1, c1, rfl, hi1, hb1⟩
  go_wp2_with fail
  refine (decode_at _ _ _ _ _ (by decide +kernel) h2).mono ?_
  rintro e w2 ⟨p2, c2, rfl, hi2, hb2⟩
  have hs1 := (hi1.below hb2).alloc (.cells #[.int .i64 97, .int .i64 769] 3)
  have hs2 := ints_lit_new w2 #[.int .i64 97, .int .i64 769] [97, 769] 3 rfl
  have hb := hb1.trans (hb2.mono hb1.size)
  have hba := hb.alloc hb.size (.cells #[.int .i64 97, .int .i64 769] 3)
  have H1 := Lib.hid hs1
  have H2 := Lib.hid hs2
  have HB := Lib.hid hba
  clear hs1 hs2 hi1 hi2 hb1 hb2 hb hba
  go_wp2_with fail
  refine (same_any _ _ _ _ [97, 769] [97, 769] _ H1.out H2.out (by decide +kernel) (by decide +kernel)).mono ?_
  rintro e w3 ⟨rfl, hb3⟩
  go_wp2
  go_ret
  exact ⟨rfl, HB.out.trans (hb3.mono HB.out.size)⟩

end Go.Proofs.Ytcpldaanffjbjaa
