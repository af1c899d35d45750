/-
  The walk of HangulOne.
-/
import Derived.Test.YtnhldkneeegohaaHanLaw
namespace Go.Proofs.Ytnhldkneeegohaa.hangulOneW
open Go.RowKit

set_option maxRecDepth 100000 in
set_option maxHeartbeats 4000000 in
theorem walk (v : Int) (_ : (Lit.int .i64 v).wf = true) (w : World) :
    Calls Try.prog 3 #[.int .i64 v] w fun e w' => e = .returned (.bool true) ∧ Below w.heap.size w w' := by
  go_enter Try.func3, Try.ntmps3
  go_wp2_with fail
  refine (near_any v _).mono ?_
  rintro e w' ⟨c, rfl, rfl⟩
  obtain ⟨i, j, k, b, hp⟩ : ∃ i j k b, partsS c = (i, j, k, b) := ⟨_, _, _, _, rfl⟩
  obtain ⟨D, hD⟩ : ∃ D, decS c = D := ⟨_, rfl⟩
  obtain ⟨E, hE⟩ : ∃ E, decS v = E := ⟨_, rfl⟩
  obtain ⟨x, hx⟩ : ∃ x, kindS c = x := ⟨_, rfl⟩
  obtain ⟨y, hy⟩ : ∃ y, kindS v = y := ⟨_, rfl⟩
  have LD : Hid (D.length ≤ maxLen) := by have := decS_len c; rw [hD] at this; unfold Hid maxLen; omega
  obtain ⟨n, hn⟩ : ∃ n : Nat, E.length = n := ⟨_, rfl⟩
  have HP := Lib.hid hp
  have HD := Lib.hid hD
  have HE := Lib.hid hE
  have HX := Lib.hid hx
  have HY := Lib.hid hy
  have HN := Lib.hid hn
  clear hp hD hE hx hy hn
  go_wp2_with fail
  refine (parts_at c i j k b _ HP).mono ?_
  rintro e w' ⟨rfl, rfl⟩
  go_wp2_with fail
  refine (rparts_at c i j k b _ HP).mono ?_
  rintro e w' ⟨rfl, rfl⟩
  go_wp2_with fail
  refine (awake_any _).mono ?_
  rintro e w1 ⟨rfl, hb1⟩
  have HB1 := Lib.hid hb1
  clear hb1
  go_wp2_with fail
  refine (kind_at c x _ HX).mono ?_
  rintro e w' ⟨rfl, rfl⟩
  go_wp2_with fail
  refine (rkind_at c x _ HX).mono ?_
  rintro e w' ⟨rfl, rfl⟩
  go_wp2_with fail
  refine (kind_at v y _ HY).mono ?_
  rintro e w' ⟨rfl, rfl⟩
  go_wp2_with fail
  refine (rkind_at v y _ HY).mono ?_
  rintro e w' ⟨rfl, rfl⟩
  go_wp2_with fail
  refine (hdec_at c D _ HD).mono ?_
  rintro e w2 ⟨p2, c2, rfl, hi2, hb2⟩
  have HB2 := Lib.hid (HB1.out.trans (hb2.mono HB1.out.size))
  clear hb2
  go_wp2_with fail
  refine (rhdec_at c D _ HD).mono ?_
  rintro e w3 ⟨p3, c3, rfl, hi3, hb3⟩
  have HI2 := Lib.hid (hi2.below hb3)
  have HI3 := Lib.hid hi3
  have HB3 := Lib.hid (HB2.out.trans (hb3.mono HB2.out.size))
  clear hb3 hi2 hi3
  go_wp2_with fail
  refine (sameI_at _ _ _ _ _ _ D _ HI2.out HI3.out (Lib.hid rfl) (Lib.hid rfl) LD.out).mono ?_
  rintro e w4 ⟨rfl, hb4⟩
  have HB4 := Lib.hid (HB3.out.trans (hb4.mono HB3.out.size))
  clear hb4
  go_wp2_with fail
  refine (hdec_at v E _ HE).mono ?_
  rintro e w5 ⟨p5, c5, rfl, hi5, hb5⟩
  rw [HN.out]
  have HB5 := Lib.hid (HB4.out.trans (hb5.mono HB4.out.size))
  clear hb5 hi5
  go_wp2_with fail
  refine (rhdec_at v E _ HE).mono ?_
  rintro e w6 ⟨p6, c6, rfl, hi6, hb6⟩
  rw [HN.out]
  have HB6 := Lib.hid (HB5.out.trans (hb6.mono HB5.out.size))
  clear hb6 hi6
  go_wp2
  go_ret
  exact ⟨rfl, HB6.out⟩

end Go.Proofs.Ytnhldkneeegohaa.hangulOneW
