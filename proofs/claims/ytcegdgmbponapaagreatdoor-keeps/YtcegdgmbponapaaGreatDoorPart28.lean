import Derived.Test.YtcegdgmbponapaaGreatDoorPart27
set_option maxRecDepth 100000
set_option maxHeartbeats 4000000
namespace Go.Proofs.YtcegdgmbponapaaGreatDoor
open Go.RowKit Go.Extern.Stop Go.Stop Go.Extern
attribute [local go_sem ↓] Go.wp_at_zero Go.wp_at_succ
end Go.Proofs.YtcegdgmbponapaaGreatDoor
namespace Go.Proofs.YtcegdgmbponapaaGreatDoor
open Go.RowKit
attribute [local go_sem ↓] Go.wp_at_zero Go.wp_at_succ
section
variable {w w':World} {base V key n B bc:Nat} {sp:Nat→Nat} {s:Sta}
end
section
variable {X X':Nat→List UInt8} {rs rs':List RecV} {r r':RecV}
end
theorem Tryz.cellsObj:(Tryz.prog.info? 55).map (fun i=>i.size)=some 6:=by kernel_rfl
section
variable {P:Program} {ops:Array Oper} {Q:Exit→Act→World→Prop}
end
end Go.Proofs.YtcegdgmbponapaaGreatDoor