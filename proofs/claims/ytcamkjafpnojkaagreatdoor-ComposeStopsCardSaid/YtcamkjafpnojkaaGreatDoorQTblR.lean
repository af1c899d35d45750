/-
  Properties of a code point, the program's and the reference's: joining, Bidi, sequences.
-/
import Derived.Test.YtcamkjafpnojkaaGreatDoorQTblQ
set_option linter.unusedSimpArgs false
set_option linter.unusedVariables false
namespace Go.Proofs.YtcamkjafpnojkaaGreatDoor
open Go.RowKit
set_option linter.unusedVariables false

set_option maxHeartbeats 2000000 in
theorem tdecomp_at (x : TV) (T : Tb) (c : Int) (xs : List Int) (w : World) (hx : TabV w x T) (ha : ascI 0 1114111 (froms T.dec) = true) (hxs : Hid (findM T.dec c = xs)) :
    Calls Tryz.prog 96 #[x.agg, .int .i64 c] w (GivesL xs w) := by
  have HE := Lib.hid (Env.new hx)
  have k := HE.out.at9
  have HA := Lib.hid ha
  clear ha
  have hcall := fun W h => seqOf_any x.a9 T.dec c W h HA.out
  rw [hxs.out] at hcall
  have HC := Lib.hid hcall
  clear hcall
  clear hx
  simp only [TV.agg]
  go_enter Tryz.func96, Tryz.ntmps96
  go_wp2_with fail
  refine (HC.out _ HE.out.tab.dec).mono ?_
  rintro e w1 ⟨p2, n2, c2, rfl, hl2, hn2, hin2, hb⟩
  have HB := Lib.hid (HE.out.step hb)
  have HI2 := Lib.hid hin2
  have HL2 := Lib.hid hl2
  have HN2 := Lib.hid hn2
  clear hb k hin2 hl2 hn2
  go_wp2
  go_ret
  exact ⟨p2, n2, c2, rfl, HL2.out, HN2.out, HI2.out, HB.out.bel⟩

end Go.Proofs.YtcamkjafpnojkaaGreatDoor
