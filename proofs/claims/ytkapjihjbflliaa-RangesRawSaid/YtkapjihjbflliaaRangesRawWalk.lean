/-
  The walk of RangesRaw.
-/
import Derived.Test.YtkapjihjbflliaaRanAgrees
namespace Go.Proofs.Ytkapjihjbflliaa.rangesRawW
open Go.RowKit

set_option maxHeartbeats 1000000 in
theorem walk (p q : Option Addr) (n m c d : Nat) (a b : List Sp) (lo hi x f t v : Int) (w : World) (hl : a.length = n) (hm : b.length = m) (hn : n ≤ maxLen) (hmm : m ≤ maxLen) (hd : m ≤ d) (hqd : q = none → d = 0) (hin : SpIn w p a) (hin2 : SpIn w q b) :
    Calls Try.prog 3 #[.slice p n c, .slice q m d, .int .i64 lo, .int .i64 hi, .int .i64 x, .int .i64 f, .int .i64 t, .int .i64 v] w fun e w' => e = .returned (.bool true) ∧ Below w.heap.size w w' := by
  have HL := Lib.hid hl
  have HM := Lib.hid hm
  have HQ := Lib.hid hqd
  have HI := Lib.hid hin
  have HJ := Lib.hid hin2
  clear hl hm hqd hin hin2
  go_enter Try.func3, Try.ntmps3
  go_wp2_with fail
  refine (awake_any _).mono ?_
  rintro e w1 ⟨rfl, hb1⟩
  have HI1 := Lib.hid (HI.out.below hb1)
  have HJ1 := Lib.hid (HJ.out.below hb1)
  have HB1 := Lib.hid hb1
  clear hb1
  go_wp2_with fail
  refine (agrees_any p q n m c d a b lo hi x f t v _ HL HM hn hmm hd HQ HI1.out HJ1.out).mono ?_
  rintro e w2 ⟨rfl, hb2⟩
  have HB2 := Lib.hid (HB1.out.trans (hb2.mono HB1.out.size))
  clear hb2
  go_wp2
  go_ret
  exact ⟨rfl, HB2.out⟩

end Go.Proofs.Ytkapjihjbflliaa.rangesRawW
