/- The shelf of this seat holds all of it. -/
import Derived.Test.YtnjiogfnjpnjfaaGreatDoorShelf
namespace Go.Proofs.YtnjiogfnjpnjfaaGreatDoor
end Go.Proofs.YtnjiogfnjpnjfaaGreatDoor
