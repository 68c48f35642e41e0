import Derived.Shelf.Slices.CompactS
import Derived.Shelf.Slices.Cells
import Derived.Test.YtcegdgmbponapaaGreatDoorProg
namespace Go.Proofs
open Go.Shelf
end Go.Proofs
