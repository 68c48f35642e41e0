import Derived.Test.YtcegdgmbponapaaGreatDoorPart11
import Derived.Test.YtcegdgmbponapaaGreatDoorSort
import Derived.Test.YtcegdgmbponapaaGreatDoorCompact
import Derived.Shelf.Slices.In.SortNone
set_option maxRecDepth 100000
set_option maxHeartbeats 4000000
namespace Go.Proofs.YtcegdgmbponapaaGreatDoor
open Go.RowKit
attribute [local go_sem ↓] Go.wp_at_zero Go.wp_at_succ
attribute [local go_sem ↓] qlI neqOb
end Go.Proofs.YtcegdgmbponapaaGreatDoor
namespace Go.Proofs.YtcegdgmbponapaaGreatDoor
open Go.RowKit
attribute [local go_sem ↓] Go.wp_at_zero Go.wp_at_succ
def RecV.late (r:RecV):Ob:=if r.na.isSome then ⟨r.name,r.mode,r.t,r.l,r.size,r.epoch+1⟩ else r.ob
theorem qhA (a:Act) (s r:Nat) (v:Value) (h:s≠r):(a.put (some s) v).tmps.getD r undef=a.tmps.getD r undef:=by
 simp [Act.put,Array.getElem?_setIfInBounds_ne h]
theorem put_eq (a:Act) (s:Nat) (v:Value) (h:s<a.tmps.size):(a.put (some s) v).tmps.getD s undef=v:=by
 simp [Act.put,h]
def qac (rs:List RecV) (nm:ByteArray):RecV:=rs[qai rs nm]!
def qdj (A Z:List Ob):Option Nat:=if qdY Z then (if A=Z then some 5 else some 3) else if qdY A then some 4 else none
end Go.Proofs.YtcegdgmbponapaaGreatDoor
namespace Go.Proofs.YtcegdgmbponapaaGreatDoor
open Go.Lib
end Go.Proofs.YtcegdgmbponapaaGreatDoor
namespace Go.Proofs.YtcegdgmbponapaaGreatDoor
open Go.RowKit Go.Sort Go.Lib
attribute [local go_sem ↓] Go.wp_at_zero Go.wp_at_succ
end Go.Proofs.YtcegdgmbponapaaGreatDoor
namespace Go.Proofs.YtcegdgmbponapaaGreatDoor
open Go.RowKit
attribute [local go_sem ↓] Go.wp_at_zero Go.wp_at_succ
end Go.Proofs.YtcegdgmbponapaaGreatDoor