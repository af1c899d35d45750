/- mapping: plain mathematics: what the statuses make of a sequ -/
import Derived.Test.YtopaojjodkoidaaGreatDoorSSmPkZ
import Derived.Test.YtopaojjodkoidaaGreatDoorSSmTblQ
import Derived.Test.YtopaojjodkoidaaGreatDoorSSmPkT
import Derived.Test.YtopaojjodkoidaaGreatDoorSSmPkZZS
import Derived.Test.YtopaojjodkoidaaGreatDoorSSmPkS
import Derived.Test.YtopaojjodkoidaaGreatDoorSSmTabRN
set_option linter.unusedSimpArgs false
set_option linter.unusedVariables false
namespace Go.Proofs.YtopaojjodkoidaaGreatDoor
open Go.RowKit
theorem racce_at (x : TV) (T : Tb) (p : Option Addr) (cap : Nat) (zs : List Int) (E : Int) (w : World) (hx : TabV w x T) (hcap : CapOf x) (hin : IntsIn w p zs) (hl : zs.length ≤ 17592186043904) (hE : Hid (accE T zs = E)) :
 Calls Tryz.prog 42 #[x.agg, .slice p zs.length cap] w (Gives (.int .i64 E) w) := by
 have hac := fun W (h1 : TabV W x T) h2 => racc_at x T p cap zs E W h1 hcap h2 hl hE
 have HE := Lib.hid (Env.new hx)
 have HI := Lib.hid hin
 obtain ⟨n, hn⟩ : ∃ n, zs.length = n := ⟨_, rfl⟩
 rw [hn] at hl hac ⊢
 have HAC := Lib.hid hac
 clear hx hin hn hcap hac
 simp only [TV.agg]
 go_enter Tryz.func42, Tryz.ntmps42
 obtain ⟨⟨k0, k1, k2, k3, k4, k5⟩, ⟨k6, k7, k8, k9, k10, k11⟩⟩ := HE.out.box.load
 go_wp2_with fail
 refine (HAC.out _ HE.out.tab (HI.out.below HE.out.bel)).mono ?_
 rintro e w1 ⟨rfl, hb1⟩
 replace HE := Lib.hid (HE.out.step hb1)
 clear hb1 k0 k1 k2 k3 k4 k5 k6 k7 k8 k9 k10 k11
 go_wp2
 go_ret
 exact ⟨rfl, HE.out.bel⟩
end Go.Proofs.YtopaojjodkoidaaGreatDoor
