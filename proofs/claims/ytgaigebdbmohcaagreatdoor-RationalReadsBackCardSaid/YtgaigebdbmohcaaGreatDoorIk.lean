/- Contracts of Sub. -/
import Derived.Test.YtgaigebdbmohcaaGreatDoorQIez
import Derived.Test.YtgaigebdbmohcaaGreatDoorIh
import Derived.Test.YtgaigebdbmohcaaGreatDoorIi
namespace Go.Proofs.YtgaigebdbmohcaaGreatDoor
open Go.RowKit

end Go.Proofs.YtgaigebdbmohcaaGreatDoor
