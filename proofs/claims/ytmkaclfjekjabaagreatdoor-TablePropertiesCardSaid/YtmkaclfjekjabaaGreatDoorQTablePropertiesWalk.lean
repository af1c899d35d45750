/-
  The walk of TableProperties.
-/
import Derived.Test.YtmkaclfjekjabaaGreatDoorQTblV
set_option linter.unusedSimpArgs false
set_option linter.unusedVariables false
namespace Go.Proofs.YtmkaclfjekjabaaGreatDoor
open Go.RowKit

theorem tableProperties_walk (p : Option Addr) (cap : Nat) (zs : List Int) (c sh : Int) (w : World) (hin : IntsIn w p zs) (hl : zs.length ≤ 17592186043904) (hr : Rsv w) :
    Calls Tryz.prog 4 #[.slice p zs.length cap, .int .i64 c, .int .i64 sh] w (Gives (.bool true) w) :=
  tableProperties_of properties_ok p cap zs c sh w hin hl hr

theorem tableFixed_walk (p : Option Addr) (cap : Nat) (zs : List Int) (c : Int) (w : World) (hin : IntsIn w p zs) (hl : zs.length ≤ 17592186043904) (hr : Rsv w) :
    Calls Tryz.prog 5 #[.slice p zs.length cap, .int .i64 c] w (Gives (.bool true) w) :=
  tableFixed_of properties_ok p cap zs c w hin hl hr

end Go.Proofs.YtmkaclfjekjabaaGreatDoor
