/-
  puny's statements: awake, agrees.
-/
import Derived.Test.YtaakdcelbnghoaaQSame
import Derived.Test.YtaakdcelbnghoaaQPunRefD
import Derived.Test.YtaakdcelbnghoaaQPunRefB
import Derived.Test.YtaakdcelbnghoaaPkZZA
set_option linter.unusedSimpArgs false
set_option linter.unusedVariables false
namespace Go.Proofs.Ytaakdcelbnghoaa
open Go.RowKit
set_option linter.unusedVariables false

theorem ints_cells (w : World) (C : Array Value) (xs : List Int) (t : TypeId) (h : C.toList = xs.map (.int .i64)) : IntsIn (w.alloc (.cells C t)) (some ⟨w.heap.size, 0, none⟩) xs := by
  intro k hk
  refine ⟨_, _, rfl, ?_⟩
  rw [Nat.zero_add, World.cell?_alloc_new, ← Array.getElem?_toList, h]
  simp [hk]

set_option maxHeartbeats 1000000 in
theorem awake10_any (w : World) : Calls Try.prog 14 #[] w fun e w' => e = .returned (.bool true) ∧ Below w.heap.size w w' := by
  have h1 : Hid (encP [98, 252, 99, 104, 101, 114] = ([98, 99, 104, 101, 114, 45, 107, 118, 97], 0)) := by unfold Hid; decide +kernel
  have h2 : Hid (strOfNums [98, 99, 104, 101, 114, 45, 107, 118, 97] = ByteArray.mk #[98, 99, 104, 101, 114, 45, 107, 118, 97]) := by unfold Hid; decide +kernel
  have h3 : Hid (decP (nums (ByteArray.mk #[45])) = ([], 12)) := by unfold Hid; decide +kernel
  have h4 : Hid (decP (nums (ByteArray.mk #[])) = ([], 0)) := by unfold Hid; decide +kernel
  have h5 : Hid (adaptN 0 1 true = 0) := by unfold Hid; decide +kernel
  have hl := ints_cells w #[.int .i64 98, .int .i64 252, .int .i64 99, .int .i64 104, .int .i64 101, .int .i64 114] [98, 252, 99, 104, 101, 114] 3 rfl
  have hb0 := (Below.refl w.heap.size w).alloc (Nat.le_refl _) (.cells #[.int .i64 98, .int .i64 252, .int .i64 99, .int .i64 104, .int .i64 101, .int .i64 114] 3)
  have HL := Lib.hid hl
  have HB0 := Lib.hid hb0
  clear hl hb0
  go_enter Try.func14, Try.ntmps14
  go_wp2_with fail
  refine (encode_at _ 6 6 [98, 252, 99, 104, 101, 114] _ _ _ _ HL.out rfl (Nat.le_refl _) (by decide) h1 h2).mono ?_
  rintro e w1 ⟨rfl, hb1⟩
  have HB1 := Lib.hid (HB0.out.trans (hb1.mono HB0.out.size))
  clear hb1 HB0 HL
  go_wp2_with fail
  refine (pdecode_at (ByteArray.mk #[45]) [] 12 _ (by decide) h3).mono ?_
  rintro e w2 ⟨v2, rfl, hi2, hb2⟩
  have HB2 := Lib.hid (HB1.out.trans (hb2.mono HB1.out.size))
  obtain ⟨p2, c2, rfl, hin2⟩ := hi2.inn
  clear hb2 HB1 hi2 hin2
  go_wp2_with fail
  refine (pdecode_at (ByteArray.mk #[]) [] 0 _ (by decide) h4).mono ?_
  rintro e w3 ⟨v3, rfl, hi3, hb3⟩
  have HB3 := Lib.hid (HB2.out.trans (hb3.mono HB2.out.size))
  obtain ⟨p3, c3, rfl, hin3⟩ := hi3.inn
  clear hb3 HB2 hi3 hin3
  go_wp2_with (first | (go_at_call 17; refine (adapt_at_in 0 1 0 true _ (by omega) (by omega) (by omega) h5).mono ?_; rintro e w4 ⟨rfl, rfl⟩))
  go_ret
  exact ⟨rfl, HB3.out⟩

set_option maxHeartbeats 1000000 in
theorem agrees10_at (s : ByteArray) (w : World) (hs : s.size ≤ 140737488355328) : Calls Try.prog 16 #[.string s] w fun e w' => e = .returned (.bool true) ∧ Below w.heap.size w w' := by
  obtain ⟨xs, er, hE⟩ : ∃ xs er, decP (nums s) = (xs, er) := ⟨_, _, rfl⟩
  have HE := Lib.hid hE
  clear hE
  go_enter Try.func16, Try.ntmps16
  go_wp2_with fail
  refine (pdecode_at s xs er _ hs HE).mono ?_
  rintro e w1 ⟨v1, rfl, hi1, hb1⟩
  have HI1 := Lib.hid hi1
  have HB1 := Lib.hid hb1
  clear hi1 hb1
  go_wp2_with fail
  refine (rdecode_at s xs er _ hs HE).mono ?_
  rintro e w2 ⟨v2, rfl, hi2, hb2⟩
  have hb : Below w.heap.size w w2 := HB1.out.trans (hb2.mono HB1.out.size)
  have hi3 : Ints w2 w.heap.size v1 xs := HI1.out.below hb2
  obtain ⟨p1, c1, rfl, hin1⟩ := hi3.inn
  obtain ⟨p2, c2, rfl, hin2⟩ := hi2.inn
  have HIN1 := Lib.hid hin1
  have HIN2 := Lib.hid hin2
  have HB := Lib.hid hb
  have hlen : xs.length ≤ 17592186043904 := by have := (decP_out HE.out).1; omega
  clear hi2 hi3 hin1 hin2 hb hb2 HI1 HB1
  go_wp2_with fail
  refine (same_any _ _ _ _ xs xs _ HIN1.out HIN2.out (by unfold maxLen; omega) (by unfold maxLen; omega)).mono ?_
  rintro e w3 ⟨rfl, hb3⟩
  go_wp2
  go_ret
  exact ⟨by simp, HB.out.trans (hb3.mono HB.out.size)⟩

end Go.Proofs.Ytaakdcelbnghoaa
