import Derived.Test.YtcegdgmbponapaaGreatDoorPart29
set_option maxRecDepth 100000
set_option maxHeartbeats 4000000
namespace Go.Proofs.YtcegdgmbponapaaGreatDoor
open Go.RowKit
attribute [local go_sem ↓] Go.wp_at_zero Go.wp_at_succ
abbrev Mem:=ByteArray × ByteArray
section
variable {V:ByteArray→Option ByteArray} {l:List Mem} {nm:ByteArray} {cnt:Nat}
end
section
variable {w w':World} {L:Seat} {s s':Sta} {V:ByteArray→Option ByteArray} {l:List Mem} {st:StepV}
end
end Go.Proofs.YtcegdgmbponapaaGreatDoor