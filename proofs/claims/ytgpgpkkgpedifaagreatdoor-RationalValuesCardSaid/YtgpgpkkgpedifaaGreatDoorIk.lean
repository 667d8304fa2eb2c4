/- Contracts of Sub. -/
import Derived.Test.YtgpgpkkgpedifaaGreatDoorQIez
import Derived.Test.YtgpgpkkgpedifaaGreatDoorIh
import Derived.Test.YtgpgpkkgpedifaaGreatDoorIi
namespace Go.Proofs.YtgpgpkkgpedifaaGreatDoor
open Go.RowKit

end Go.Proofs.YtgpgpkkgpedifaaGreatDoor
