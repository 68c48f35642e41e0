import Derived.Shelf.Sort.Plain
import Derived.Test.YtcegdgmbponapaaGreatDoorProg
namespace Go.Proofs
open Go.Shelf
end Go.Proofs
